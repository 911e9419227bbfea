/- Texts that the proof of the law stands on: QRb, QRc, QRd, QRg. -/
import Derived.Test.YtfgapmfjfienhaaGreatDoorPartG
/- CmdRange: the walk, a command behind numbers: signs. -/
namespace Go.Proofs.YtfgapmfjfienhaaGreatDoor
open Go.ChangeShapes Go.WideShapes Go.ChangeAt Go.RowKit Go.Maps Go.MapKept
set_option linter.unusedVariables false
set_option linter.unusedSimpArgs false
set_option maxRecDepth 100000
section
variable {w : World}
set_option maxHeartbeats 8000000 in
theorem rg_38ok (s : ByteArray) {a b n : Nat} {c c2 : CmP} (ha : a < 65536) (hb : b < 65536) (hs : s.size ≤ 300) (h0 : 0 < s.size) (hX : cmdL s.data.toList = (n, c)) (hY : cmdL (rngL a b s.data.toList) = (n, c2)) (hv : (s[0]'h0).toNat = 38) (hn : n = 0) (hr : c.rg = []) (h2 : c2 = { c with rg := two a b })  (hw : Gs w) : Calls Tryz.prog 8 #[.string s, .int .u16 (a : Int), .int .u16 (b : Int)] w fun e w' => e = .returned (.bool true) ∧ Kp w w' := by
  have H1 : Hid (Calls Tryz.prog 11 #[] w fun e w' => e = .returned (.bool true) ∧ Kp w w') := known_any hw
  have Hg : Hid (∀ z, Kp w z → Gs z) := fun z k => hw.kp k
  have H2 : Hid (∀ z, Gs z → Calls Tryz.prog 12 #[.string s] z _) := fun z hz => parse_at s (by omega) hX hz
  have hZ := rgx_size (s := s) ha hb hs
  have hY2 : cmdL ((⟨#[32, 58]⟩ : ByteArray) ++ bA (digs a) ++ ⟨#[32, 44, 32]⟩ ++ bA (digs b) ++ ⟨#[32]⟩ ++ s).data.toList = (n, c2) := by rw [rgx_list]; exact hY
  have D1 : Hid (∀ z, Calls Tryz.prog 13 #[.int .i64 (a : Int)] z _) := fun z => digits_any a (by omega) z
  have D2 : Hid (∀ z, Calls Tryz.prog 13 #[.int .i64 (b : Int)] z _) := fun z => digits_any b (by omega) z
  have y1 : (bA (digs a)).size ≤ 6 := by show (digs a).toArray.size ≤ 6; simpa using digs_len 5 (n := a) (by omega)
  have y2 : (bA (digs b)).size ≤ 6 := by show (digs b).toArray.size ≤ 6; simpa using digs_len 5 (n := b) (by omega)
  obtain ⟨A, hA⟩ : ∃ A, bA (digs a) = A := ⟨_, rfl⟩
  obtain ⟨B, hB⟩ : ∃ B, bA (digs b) = B := ⟨_, rfl⟩
  rw [hA] at D1 y1 hZ hY2; rw [hB] at D2 y2 hZ hY2
  have H3 : Hid (∀ z, Gs z → Calls Tryz.prog 12 #[.string ((⟨#[32, 58]⟩ : ByteArray) ++ A ++ ⟨#[32, 44, 32]⟩ ++ B ++ ⟨#[32]⟩ ++ s)] z _) := fun z hz => parse_at _ (by omega) hY2 hz
  have g1 : decide ((s.size : Int) > 300) = false := decide_eq_false (by omega)
  have g2 : decide ((300 : Int) < (s.size : Int)) = false := decide_eq_false (by omega)
  have g3 : decide (300 < s.size) = false := decide_eq_false (by omega)
  have g4 : ((s.size : Int) == 0) = false := by rw [beq_eq_false_iff_ne]; omega
  have f1 := hv
  subst hn; subst h2
  have HR : Hid (c.rg = []) := hr
  clear hr
  clear hw hX hY hY2 hZ hA hB
  go_enter Tryz.func8, Tryz.ntmps8
  go_wp2_with fail
  refine Calls.mono H1.out ?_
  rintro e w1 ⟨rfl, k1⟩
  have HK : Hid (Kp w w1) := k1
  clear k1 H1
  go_wp2_with fail
  refine Calls.mono (H2.out _ (Hg.out _ HK.out)) ?_
  rintro e w3 ⟨ra, rc, da, dc, rfl, HA⟩
  clear H2
  obtain ⟨q1, hq1⟩ : ∃ q, w3.heap.size = q := ⟨_, rfl⟩
  obtain ⟨U1, hU1⟩ : ∃ z, w3.alloc (.cells #[.slice none 0 0, .string ⟨#[]⟩, .bool false, .int .u8 0, .int .i64 0, .slice none 0 0, .string ⟨#[]⟩, .string ⟨#[]⟩, .string ⟨#[]⟩, .string ⟨#[]⟩] 27) = z := ⟨_, rfl⟩
  have HB : Hid (Lc 27 q1 zmC U1 ∧ Kp w3 U1 ∧ w3.heap.size ≤ q1) := by
    rw [← hU1, ← hq1]; exact ⟨box_new w3, kp_alloc _ _, Nat.le_refl _⟩
  go_upto_region 7 with (refine wpList_store_box HB.out.1 0 (cmC c (.slice ra c.rg.length rc) (.slice da c.dest.length dc)) rfl 27 (.tmp 8) (.tmp 61) rfl rfl rfl (Nat.le_refl 10) sizeCmd (cmC_one _ _ _ _ _ _ _) rfl ?_; intro w4 x1 x2 x3; have HC : Hid (Lc 27 q1 (cmC c (.slice ra c.rg.length rc) (.slice da c.dest.length dc)) w4 ∧ Kp w3 w4 ∧ Kp w w4) := ⟨x1, kp_on HB.out.2.1 x2 HB.out.2.2, kp_trans (kp_trans HK.out HA.out.2.2) (kp_on HB.out.2.1 x2 HB.out.2.2)⟩; clear x1 x2 x3)
  have HD : Hid (w4.ownsRow w1.heap.size 43 6 (.slice ra c.rg.length rc) c.rg.length (adCs c.rg) ∧ w4.ownsRow w1.heap.size 43 6 (.slice da c.dest.length dc) c.dest.length (adCs c.dest)) := ⟨row_kp HA.out.1 HC.out.2.1, row_kp HA.out.2.1 HC.out.2.1⟩
  clear HA HB hq1 hU1 HK
  go_wp2_with fail
  refine Calls.mono (D1.out _) ?_
  rintro e v1 ⟨rfl, k1⟩
  have HE : Hid (Kp w4 v1) := k1
  clear k1 D1
  go_wp2_with fail
  refine Calls.mono (D2.out _) ?_
  rintro e v2 ⟨rfl, k1⟩
  have HF : Hid (Kp w4 v2) := kp_trans HE.out k1
  clear k1 D2 HE
  go_wp2_with fail
  refine Calls.mono (H3.out _ (Hg.out _ (kp_trans HC.out.2.2 HF.out))) ?_
  rintro e w5 ⟨rb, rd, db, dd, rfl, HA⟩
  clear H3
  obtain ⟨q2, hq2⟩ : ∃ q, w5.heap.size = q := ⟨_, rfl⟩
  obtain ⟨U2, hU2⟩ : ∃ z, w5.alloc (.cells #[.slice none 0 0, .string ⟨#[]⟩, .bool false, .int .u8 0, .int .i64 0, .slice none 0 0, .string ⟨#[]⟩, .string ⟨#[]⟩, .string ⟨#[]⟩, .string ⟨#[]⟩] 27) = z := ⟨_, rfl⟩
  have HB : Hid (Lc 27 q2 zmC U2 ∧ Kp w5 U2 ∧ w5.heap.size ≤ q2) := by
    rw [← hU2, ← hq2]; exact ⟨box_new w5, kp_alloc _ _, Nat.le_refl _⟩
  go_upto_region 8 with (refine wpList_store_box HB.out.1 0 (cmC { c with rg := two a b } (.slice rb 2 rd) (.slice db c.dest.length dd)) rfl 27 (.tmp 10) (.tmp 77) rfl rfl rfl (Nat.le_refl 10) sizeCmd (cmC_one _ _ _ _ _ _ _) rfl ?_; intro w7 x1 x2 x3; have HE0 : Hid (Lc 27 q2 (cmC { c with rg := two a b } (.slice rb 2 rd) (.slice db c.dest.length dd)) w7 ∧ Kp w5 w7) := ⟨x1, kp_on HB.out.2.1 x2 HB.out.2.2⟩; clear x1 x2 x3)
  have k47 : Kp w4 w7 := kp_trans (kp_trans HF.out HA.out.2.2) HE0.out.2
  have hq12 : q1 < q2 := by
    have i1 : q1 < w4.heap.size := HC.out.1.lt
    have i2 := (kp_trans HF.out HA.out.2.2).size
    have i3 := HB.out.2.2
    omega
  obtain ⟨w8, hw8⟩ : ∃ z, w7.setCell ⟨q2, 0, none⟩ (.slice none 0 0) = z := ⟨_, rfl⟩
  have f78 : Fr (On q2) w7 w8 := by rw [← hw8]; exact fr_set _ _ _ _
  have HG : Hid (Lc 27 q1 (cmC c (.slice ra c.rg.length rc) (.slice da c.dest.length dc)) w8 ∧ Lc 27 q2 (cmC c (.slice none 0 0) (.slice db c.dest.length dd)) w8) :=
    ⟨(HC.out.1.kp k47).fr f78 (by unfold On; omega), by rw [← hw8]; exact HE0.out.1.set 0 (.slice none 0 0)⟩
  obtain ⟨g, rfl⟩ : ∃ g, rb = some ⟨g, 0, none⟩ := by
    rcases HA.out.1.2 with ⟨e, e0⟩ | ⟨g, _, _, e, _⟩
    · cases e0
    · cases e; exact ⟨g, rfl⟩
  have S0 := six_of (l := two a b) (i := 0) (row_kp HA.out.1 HE0.out.2) rfl
  have S1 := six_of (l := two a b) (i := 1) (row_kp HA.out.1 HE0.out.2) rfl
  have s1 : w7.cell? ⟨g, 1, none⟩ = some (.int .i64 (a : Int)) := S0.k1
  have s2 : w7.cell? ⟨g, 7, none⟩ = some (.int .i64 (b : Int)) := S1.k1
  have t0 : w7.cell? ⟨q2, 0, none⟩ = some (.slice (some ⟨g, 0, none⟩) 2 rd) := HE0.out.1.at (j := 0) rfl
  have t1 : w7.frozen? ⟨q2, 0, none⟩ = false := HE0.out.1.fz 0
  have k48 : Kp w4 w8 := by
    have i2 := (kp_trans HF.out HA.out.2.2).size
    have i3 := HB.out.2.2
    rw [← hw8]; exact kp_new k47 (by omega)
  have k58 : Kp w5 w8 := by rw [← hw8]; exact kp_new HE0.out.2 HB.out.2.2
  have hl0 : c.rg.length = 0 := by rw [HR.out]; rfl
  have HS : Hid (Calls Tryz.prog 14 #[.agg (cmC c (.slice ra c.rg.length rc) (.slice da c.dest.length dc)).toArray, .agg (cmC c (.slice none 0 0) (.slice db c.dest.length dd)).toArray] w8 fun e w' => e = .returned (.bool true) ∧ Kp w8 w') :=
    same_core c (fun z k => by rw [hl0]; exact adsame0 _ _ _ _ z) (fun z k => adsame_any (row_kp (row_kp HD.out.2 k48) k) (row_kp (row_kp HA.out.2.1 k58) k))
  have HX : Hid (Kp w w8) := kp_trans HC.out.2.2 k48
  have x0 : w8.cell? ⟨q1, 0, none⟩ = some (.slice ra c.rg.length rc) := HG.out.1.at (j := 0) rfl
  have x1 : w8.cell? ⟨q1, 1, none⟩ = some (.string (bA c.name)) := HG.out.1.at (j := 1) rfl
  have x2 : w8.cell? ⟨q1, 2, none⟩ = some (.bool c.bang) := HG.out.1.at (j := 2) rfl
  have x3 : w8.cell? ⟨q1, 3, none⟩ = some (.int .u8 (c.reg : Int)) := HG.out.1.at (j := 3) rfl
  have x4 : w8.cell? ⟨q1, 4, none⟩ = some (.int .i64 c.cnt) := HG.out.1.at (j := 4) rfl
  have x5 : w8.cell? ⟨q1, 5, none⟩ = some (.slice da c.dest.length dc) := HG.out.1.at (j := 5) rfl
  have x6 : w8.cell? ⟨q1, 6, none⟩ = some (.string (bA c.pat)) := HG.out.1.at (j := 6) rfl
  have x7 : w8.cell? ⟨q1, 7, none⟩ = some (.string (bA c.rep)) := HG.out.1.at (j := 7) rfl
  have x8 : w8.cell? ⟨q1, 8, none⟩ = some (.string (bA c.flags)) := HG.out.1.at (j := 8) rfl
  have x9 : w8.cell? ⟨q1, 9, none⟩ = some (.string (bA c.arg)) := HG.out.1.at (j := 9) rfl
  have y10 : w8.cell? ⟨q2, 0, none⟩ = some (.slice none 0 0) := HG.out.2.at (j := 0) rfl
  have y11 : w8.cell? ⟨q2, 1, none⟩ = some (.string (bA c.name)) := HG.out.2.at (j := 1) rfl
  have y12 : w8.cell? ⟨q2, 2, none⟩ = some (.bool c.bang) := HG.out.2.at (j := 2) rfl
  have y13 : w8.cell? ⟨q2, 3, none⟩ = some (.int .u8 (c.reg : Int)) := HG.out.2.at (j := 3) rfl
  have y14 : w8.cell? ⟨q2, 4, none⟩ = some (.int .i64 c.cnt) := HG.out.2.at (j := 4) rfl
  have y15 : w8.cell? ⟨q2, 5, none⟩ = some (.slice db c.dest.length dd) := HG.out.2.at (j := 5) rfl
  have y16 : w8.cell? ⟨q2, 6, none⟩ = some (.string (bA c.pat)) := HG.out.2.at (j := 6) rfl
  have y17 : w8.cell? ⟨q2, 7, none⟩ = some (.string (bA c.rep)) := HG.out.2.at (j := 7) rfl
  have y18 : w8.cell? ⟨q2, 8, none⟩ = some (.string (bA c.flags)) := HG.out.2.at (j := 8) rfl
  have y19 : w8.cell? ⟨q2, 9, none⟩ = some (.string (bA c.arg)) := HG.out.2.at (j := 9) rfl
  clear S0 S1 HA HB HE0 HG k47 k48 k58 hl0 f78 hq12 hU2 hq2 HD HF HC HR Hg
  go_wp2_with fail
  refine Calls.mono HS.out ?_
  rintro e w9 ⟨rfl, k⟩
  have HZ : Hid (Kp w w9) := kp_trans HX.out k
  clear k HS HX x0 x1 x2 x3 x4 x5 x6 x7 x8 x9 y10 y11 y12 y13 y14 y15 y16 y17 y18 y19
  go_wp2_with fail
  go_ret
  exact ⟨rfl, HZ.out⟩
set_option maxHeartbeats 8000000 in
theorem rg_126ok (s : ByteArray) {a b n : Nat} {c c2 : CmP} (ha : a < 65536) (hb : b < 65536) (hs : s.size ≤ 300) (h0 : 0 < s.size) (hX : cmdL s.data.toList = (n, c)) (hY : cmdL (rngL a b s.data.toList) = (n, c2)) (hv : (s[0]'h0).toNat = 126) (hn : n = 0) (hr : c.rg = []) (h2 : c2 = { c with rg := two a b })  (hw : Gs w) : Calls Tryz.prog 8 #[.string s, .int .u16 (a : Int), .int .u16 (b : Int)] w fun e w' => e = .returned (.bool true) ∧ Kp w w' := by
  have H1 : Hid (Calls Tryz.prog 11 #[] w fun e w' => e = .returned (.bool true) ∧ Kp w w') := known_any hw
  have Hg : Hid (∀ z, Kp w z → Gs z) := fun z k => hw.kp k
  have H2 : Hid (∀ z, Gs z → Calls Tryz.prog 12 #[.string s] z _) := fun z hz => parse_at s (by omega) hX hz
  have hZ := rgx_size (s := s) ha hb hs
  have hY2 : cmdL ((⟨#[32, 58]⟩ : ByteArray) ++ bA (digs a) ++ ⟨#[32, 44, 32]⟩ ++ bA (digs b) ++ ⟨#[32]⟩ ++ s).data.toList = (n, c2) := by rw [rgx_list]; exact hY
  have D1 : Hid (∀ z, Calls Tryz.prog 13 #[.int .i64 (a : Int)] z _) := fun z => digits_any a (by omega) z
  have D2 : Hid (∀ z, Calls Tryz.prog 13 #[.int .i64 (b : Int)] z _) := fun z => digits_any b (by omega) z
  have y1 : (bA (digs a)).size ≤ 6 := by show (digs a).toArray.size ≤ 6; simpa using digs_len 5 (n := a) (by omega)
  have y2 : (bA (digs b)).size ≤ 6 := by show (digs b).toArray.size ≤ 6; simpa using digs_len 5 (n := b) (by omega)
  obtain ⟨A, hA⟩ : ∃ A, bA (digs a) = A := ⟨_, rfl⟩
  obtain ⟨B, hB⟩ : ∃ B, bA (digs b) = B := ⟨_, rfl⟩
  rw [hA] at D1 y1 hZ hY2; rw [hB] at D2 y2 hZ hY2
  have H3 : Hid (∀ z, Gs z → Calls Tryz.prog 12 #[.string ((⟨#[32, 58]⟩ : ByteArray) ++ A ++ ⟨#[32, 44, 32]⟩ ++ B ++ ⟨#[32]⟩ ++ s)] z _) := fun z hz => parse_at _ (by omega) hY2 hz
  have g1 : decide ((s.size : Int) > 300) = false := decide_eq_false (by omega)
  have g2 : decide ((300 : Int) < (s.size : Int)) = false := decide_eq_false (by omega)
  have g3 : decide (300 < s.size) = false := decide_eq_false (by omega)
  have g4 : ((s.size : Int) == 0) = false := by rw [beq_eq_false_iff_ne]; omega
  have f1 := hv
  subst hn; subst h2
  have HR : Hid (c.rg = []) := hr
  clear hr
  clear hw hX hY hY2 hZ hA hB
  go_enter Tryz.func8, Tryz.ntmps8
  go_wp2_with fail
  refine Calls.mono H1.out ?_
  rintro e w1 ⟨rfl, k1⟩
  have HK : Hid (Kp w w1) := k1
  clear k1 H1
  go_wp2_with fail
  refine Calls.mono (H2.out _ (Hg.out _ HK.out)) ?_
  rintro e w3 ⟨ra, rc, da, dc, rfl, HA⟩
  clear H2
  obtain ⟨q1, hq1⟩ : ∃ q, w3.heap.size = q := ⟨_, rfl⟩
  obtain ⟨U1, hU1⟩ : ∃ z, w3.alloc (.cells #[.slice none 0 0, .string ⟨#[]⟩, .bool false, .int .u8 0, .int .i64 0, .slice none 0 0, .string ⟨#[]⟩, .string ⟨#[]⟩, .string ⟨#[]⟩, .string ⟨#[]⟩] 27) = z := ⟨_, rfl⟩
  have HB : Hid (Lc 27 q1 zmC U1 ∧ Kp w3 U1 ∧ w3.heap.size ≤ q1) := by
    rw [← hU1, ← hq1]; exact ⟨box_new w3, kp_alloc _ _, Nat.le_refl _⟩
  go_upto_region 7 with (refine wpList_store_box HB.out.1 0 (cmC c (.slice ra c.rg.length rc) (.slice da c.dest.length dc)) rfl 27 (.tmp 8) (.tmp 61) rfl rfl rfl (Nat.le_refl 10) sizeCmd (cmC_one _ _ _ _ _ _ _) rfl ?_; intro w4 x1 x2 x3; have HC : Hid (Lc 27 q1 (cmC c (.slice ra c.rg.length rc) (.slice da c.dest.length dc)) w4 ∧ Kp w3 w4 ∧ Kp w w4) := ⟨x1, kp_on HB.out.2.1 x2 HB.out.2.2, kp_trans (kp_trans HK.out HA.out.2.2) (kp_on HB.out.2.1 x2 HB.out.2.2)⟩; clear x1 x2 x3)
  have HD : Hid (w4.ownsRow w1.heap.size 43 6 (.slice ra c.rg.length rc) c.rg.length (adCs c.rg) ∧ w4.ownsRow w1.heap.size 43 6 (.slice da c.dest.length dc) c.dest.length (adCs c.dest)) := ⟨row_kp HA.out.1 HC.out.2.1, row_kp HA.out.2.1 HC.out.2.1⟩
  clear HA HB hq1 hU1 HK
  go_wp2_with fail
  refine Calls.mono (D1.out _) ?_
  rintro e v1 ⟨rfl, k1⟩
  have HE : Hid (Kp w4 v1) := k1
  clear k1 D1
  go_wp2_with fail
  refine Calls.mono (D2.out _) ?_
  rintro e v2 ⟨rfl, k1⟩
  have HF : Hid (Kp w4 v2) := kp_trans HE.out k1
  clear k1 D2 HE
  go_wp2_with fail
  refine Calls.mono (H3.out _ (Hg.out _ (kp_trans HC.out.2.2 HF.out))) ?_
  rintro e w5 ⟨rb, rd, db, dd, rfl, HA⟩
  clear H3
  obtain ⟨q2, hq2⟩ : ∃ q, w5.heap.size = q := ⟨_, rfl⟩
  obtain ⟨U2, hU2⟩ : ∃ z, w5.alloc (.cells #[.slice none 0 0, .string ⟨#[]⟩, .bool false, .int .u8 0, .int .i64 0, .slice none 0 0, .string ⟨#[]⟩, .string ⟨#[]⟩, .string ⟨#[]⟩, .string ⟨#[]⟩] 27) = z := ⟨_, rfl⟩
  have HB : Hid (Lc 27 q2 zmC U2 ∧ Kp w5 U2 ∧ w5.heap.size ≤ q2) := by
    rw [← hU2, ← hq2]; exact ⟨box_new w5, kp_alloc _ _, Nat.le_refl _⟩
  go_upto_region 8 with (refine wpList_store_box HB.out.1 0 (cmC { c with rg := two a b } (.slice rb 2 rd) (.slice db c.dest.length dd)) rfl 27 (.tmp 10) (.tmp 77) rfl rfl rfl (Nat.le_refl 10) sizeCmd (cmC_one _ _ _ _ _ _ _) rfl ?_; intro w7 x1 x2 x3; have HE0 : Hid (Lc 27 q2 (cmC { c with rg := two a b } (.slice rb 2 rd) (.slice db c.dest.length dd)) w7 ∧ Kp w5 w7) := ⟨x1, kp_on HB.out.2.1 x2 HB.out.2.2⟩; clear x1 x2 x3)
  have k47 : Kp w4 w7 := kp_trans (kp_trans HF.out HA.out.2.2) HE0.out.2
  have hq12 : q1 < q2 := by
    have i1 : q1 < w4.heap.size := HC.out.1.lt
    have i2 := (kp_trans HF.out HA.out.2.2).size
    have i3 := HB.out.2.2
    omega
  obtain ⟨w8, hw8⟩ : ∃ z, w7.setCell ⟨q2, 0, none⟩ (.slice none 0 0) = z := ⟨_, rfl⟩
  have f78 : Fr (On q2) w7 w8 := by rw [← hw8]; exact fr_set _ _ _ _
  have HG : Hid (Lc 27 q1 (cmC c (.slice ra c.rg.length rc) (.slice da c.dest.length dc)) w8 ∧ Lc 27 q2 (cmC c (.slice none 0 0) (.slice db c.dest.length dd)) w8) :=
    ⟨(HC.out.1.kp k47).fr f78 (by unfold On; omega), by rw [← hw8]; exact HE0.out.1.set 0 (.slice none 0 0)⟩
  obtain ⟨g, rfl⟩ : ∃ g, rb = some ⟨g, 0, none⟩ := by
    rcases HA.out.1.2 with ⟨e, e0⟩ | ⟨g, _, _, e, _⟩
    · cases e0
    · cases e; exact ⟨g, rfl⟩
  have S0 := six_of (l := two a b) (i := 0) (row_kp HA.out.1 HE0.out.2) rfl
  have S1 := six_of (l := two a b) (i := 1) (row_kp HA.out.1 HE0.out.2) rfl
  have s1 : w7.cell? ⟨g, 1, none⟩ = some (.int .i64 (a : Int)) := S0.k1
  have s2 : w7.cell? ⟨g, 7, none⟩ = some (.int .i64 (b : Int)) := S1.k1
  have t0 : w7.cell? ⟨q2, 0, none⟩ = some (.slice (some ⟨g, 0, none⟩) 2 rd) := HE0.out.1.at (j := 0) rfl
  have t1 : w7.frozen? ⟨q2, 0, none⟩ = false := HE0.out.1.fz 0
  have k48 : Kp w4 w8 := by
    have i2 := (kp_trans HF.out HA.out.2.2).size
    have i3 := HB.out.2.2
    rw [← hw8]; exact kp_new k47 (by omega)
  have k58 : Kp w5 w8 := by rw [← hw8]; exact kp_new HE0.out.2 HB.out.2.2
  have hl0 : c.rg.length = 0 := by rw [HR.out]; rfl
  have HS : Hid (Calls Tryz.prog 14 #[.agg (cmC c (.slice ra c.rg.length rc) (.slice da c.dest.length dc)).toArray, .agg (cmC c (.slice none 0 0) (.slice db c.dest.length dd)).toArray] w8 fun e w' => e = .returned (.bool true) ∧ Kp w8 w') :=
    same_core c (fun z k => by rw [hl0]; exact adsame0 _ _ _ _ z) (fun z k => adsame_any (row_kp (row_kp HD.out.2 k48) k) (row_kp (row_kp HA.out.2.1 k58) k))
  have HX : Hid (Kp w w8) := kp_trans HC.out.2.2 k48
  have x0 : w8.cell? ⟨q1, 0, none⟩ = some (.slice ra c.rg.length rc) := HG.out.1.at (j := 0) rfl
  have x1 : w8.cell? ⟨q1, 1, none⟩ = some (.string (bA c.name)) := HG.out.1.at (j := 1) rfl
  have x2 : w8.cell? ⟨q1, 2, none⟩ = some (.bool c.bang) := HG.out.1.at (j := 2) rfl
  have x3 : w8.cell? ⟨q1, 3, none⟩ = some (.int .u8 (c.reg : Int)) := HG.out.1.at (j := 3) rfl
  have x4 : w8.cell? ⟨q1, 4, none⟩ = some (.int .i64 c.cnt) := HG.out.1.at (j := 4) rfl
  have x5 : w8.cell? ⟨q1, 5, none⟩ = some (.slice da c.dest.length dc) := HG.out.1.at (j := 5) rfl
  have x6 : w8.cell? ⟨q1, 6, none⟩ = some (.string (bA c.pat)) := HG.out.1.at (j := 6) rfl
  have x7 : w8.cell? ⟨q1, 7, none⟩ = some (.string (bA c.rep)) := HG.out.1.at (j := 7) rfl
  have x8 : w8.cell? ⟨q1, 8, none⟩ = some (.string (bA c.flags)) := HG.out.1.at (j := 8) rfl
  have x9 : w8.cell? ⟨q1, 9, none⟩ = some (.string (bA c.arg)) := HG.out.1.at (j := 9) rfl
  have y10 : w8.cell? ⟨q2, 0, none⟩ = some (.slice none 0 0) := HG.out.2.at (j := 0) rfl
  have y11 : w8.cell? ⟨q2, 1, none⟩ = some (.string (bA c.name)) := HG.out.2.at (j := 1) rfl
  have y12 : w8.cell? ⟨q2, 2, none⟩ = some (.bool c.bang) := HG.out.2.at (j := 2) rfl
  have y13 : w8.cell? ⟨q2, 3, none⟩ = some (.int .u8 (c.reg : Int)) := HG.out.2.at (j := 3) rfl
  have y14 : w8.cell? ⟨q2, 4, none⟩ = some (.int .i64 c.cnt) := HG.out.2.at (j := 4) rfl
  have y15 : w8.cell? ⟨q2, 5, none⟩ = some (.slice db c.dest.length dd) := HG.out.2.at (j := 5) rfl
  have y16 : w8.cell? ⟨q2, 6, none⟩ = some (.string (bA c.pat)) := HG.out.2.at (j := 6) rfl
  have y17 : w8.cell? ⟨q2, 7, none⟩ = some (.string (bA c.rep)) := HG.out.2.at (j := 7) rfl
  have y18 : w8.cell? ⟨q2, 8, none⟩ = some (.string (bA c.flags)) := HG.out.2.at (j := 8) rfl
  have y19 : w8.cell? ⟨q2, 9, none⟩ = some (.string (bA c.arg)) := HG.out.2.at (j := 9) rfl
  clear S0 S1 HA HB HE0 HG k47 k48 k58 hl0 f78 hq12 hU2 hq2 HD HF HC HR Hg
  go_wp2_with fail
  refine Calls.mono HS.out ?_
  rintro e w9 ⟨rfl, k⟩
  have HZ : Hid (Kp w w9) := kp_trans HX.out k
  clear k HS HX x0 x1 x2 x3 x4 x5 x6 x7 x8 x9 y10 y11 y12 y13 y14 y15 y16 y17 y18 y19
  go_wp2_with fail
  go_ret
  exact ⟨rfl, HZ.out⟩
set_option maxHeartbeats 8000000 in
theorem rg_64ok (s : ByteArray) {a b n : Nat} {c c2 : CmP} (ha : a < 65536) (hb : b < 65536) (hs : s.size ≤ 300) (h0 : 0 < s.size) (hX : cmdL s.data.toList = (n, c)) (hY : cmdL (rngL a b s.data.toList) = (n, c2)) (hv : (s[0]'h0).toNat = 64) (hn : n = 0) (hr : c.rg = []) (h2 : c2 = { c with rg := two a b })  (hw : Gs w) : Calls Tryz.prog 8 #[.string s, .int .u16 (a : Int), .int .u16 (b : Int)] w fun e w' => e = .returned (.bool true) ∧ Kp w w' := by
  have H1 : Hid (Calls Tryz.prog 11 #[] w fun e w' => e = .returned (.bool true) ∧ Kp w w') := known_any hw
  have Hg : Hid (∀ z, Kp w z → Gs z) := fun z k => hw.kp k
  have H2 : Hid (∀ z, Gs z → Calls Tryz.prog 12 #[.string s] z _) := fun z hz => parse_at s (by omega) hX hz
  have hZ := rgx_size (s := s) ha hb hs
  have hY2 : cmdL ((⟨#[32, 58]⟩ : ByteArray) ++ bA (digs a) ++ ⟨#[32, 44, 32]⟩ ++ bA (digs b) ++ ⟨#[32]⟩ ++ s).data.toList = (n, c2) := by rw [rgx_list]; exact hY
  have D1 : Hid (∀ z, Calls Tryz.prog 13 #[.int .i64 (a : Int)] z _) := fun z => digits_any a (by omega) z
  have D2 : Hid (∀ z, Calls Tryz.prog 13 #[.int .i64 (b : Int)] z _) := fun z => digits_any b (by omega) z
  have y1 : (bA (digs a)).size ≤ 6 := by show (digs a).toArray.size ≤ 6; simpa using digs_len 5 (n := a) (by omega)
  have y2 : (bA (digs b)).size ≤ 6 := by show (digs b).toArray.size ≤ 6; simpa using digs_len 5 (n := b) (by omega)
  obtain ⟨A, hA⟩ : ∃ A, bA (digs a) = A := ⟨_, rfl⟩
  obtain ⟨B, hB⟩ : ∃ B, bA (digs b) = B := ⟨_, rfl⟩
  rw [hA] at D1 y1 hZ hY2; rw [hB] at D2 y2 hZ hY2
  have H3 : Hid (∀ z, Gs z → Calls Tryz.prog 12 #[.string ((⟨#[32, 58]⟩ : ByteArray) ++ A ++ ⟨#[32, 44, 32]⟩ ++ B ++ ⟨#[32]⟩ ++ s)] z _) := fun z hz => parse_at _ (by omega) hY2 hz
  have g1 : decide ((s.size : Int) > 300) = false := decide_eq_false (by omega)
  have g2 : decide ((300 : Int) < (s.size : Int)) = false := decide_eq_false (by omega)
  have g3 : decide (300 < s.size) = false := decide_eq_false (by omega)
  have g4 : ((s.size : Int) == 0) = false := by rw [beq_eq_false_iff_ne]; omega
  have f1 := hv
  subst hn; subst h2
  have HR : Hid (c.rg = []) := hr
  clear hr
  clear hw hX hY hY2 hZ hA hB
  go_enter Tryz.func8, Tryz.ntmps8
  go_wp2_with fail
  refine Calls.mono H1.out ?_
  rintro e w1 ⟨rfl, k1⟩
  have HK : Hid (Kp w w1) := k1
  clear k1 H1
  go_wp2_with fail
  refine Calls.mono (H2.out _ (Hg.out _ HK.out)) ?_
  rintro e w3 ⟨ra, rc, da, dc, rfl, HA⟩
  clear H2
  obtain ⟨q1, hq1⟩ : ∃ q, w3.heap.size = q := ⟨_, rfl⟩
  obtain ⟨U1, hU1⟩ : ∃ z, w3.alloc (.cells #[.slice none 0 0, .string ⟨#[]⟩, .bool false, .int .u8 0, .int .i64 0, .slice none 0 0, .string ⟨#[]⟩, .string ⟨#[]⟩, .string ⟨#[]⟩, .string ⟨#[]⟩] 27) = z := ⟨_, rfl⟩
  have HB : Hid (Lc 27 q1 zmC U1 ∧ Kp w3 U1 ∧ w3.heap.size ≤ q1) := by
    rw [← hU1, ← hq1]; exact ⟨box_new w3, kp_alloc _ _, Nat.le_refl _⟩
  go_upto_region 7 with (refine wpList_store_box HB.out.1 0 (cmC c (.slice ra c.rg.length rc) (.slice da c.dest.length dc)) rfl 27 (.tmp 8) (.tmp 61) rfl rfl rfl (Nat.le_refl 10) sizeCmd (cmC_one _ _ _ _ _ _ _) rfl ?_; intro w4 x1 x2 x3; have HC : Hid (Lc 27 q1 (cmC c (.slice ra c.rg.length rc) (.slice da c.dest.length dc)) w4 ∧ Kp w3 w4 ∧ Kp w w4) := ⟨x1, kp_on HB.out.2.1 x2 HB.out.2.2, kp_trans (kp_trans HK.out HA.out.2.2) (kp_on HB.out.2.1 x2 HB.out.2.2)⟩; clear x1 x2 x3)
  have HD : Hid (w4.ownsRow w1.heap.size 43 6 (.slice ra c.rg.length rc) c.rg.length (adCs c.rg) ∧ w4.ownsRow w1.heap.size 43 6 (.slice da c.dest.length dc) c.dest.length (adCs c.dest)) := ⟨row_kp HA.out.1 HC.out.2.1, row_kp HA.out.2.1 HC.out.2.1⟩
  clear HA HB hq1 hU1 HK
  go_wp2_with fail
  refine Calls.mono (D1.out _) ?_
  rintro e v1 ⟨rfl, k1⟩
  have HE : Hid (Kp w4 v1) := k1
  clear k1 D1
  go_wp2_with fail
  refine Calls.mono (D2.out _) ?_
  rintro e v2 ⟨rfl, k1⟩
  have HF : Hid (Kp w4 v2) := kp_trans HE.out k1
  clear k1 D2 HE
  go_wp2_with fail
  refine Calls.mono (H3.out _ (Hg.out _ (kp_trans HC.out.2.2 HF.out))) ?_
  rintro e w5 ⟨rb, rd, db, dd, rfl, HA⟩
  clear H3
  obtain ⟨q2, hq2⟩ : ∃ q, w5.heap.size = q := ⟨_, rfl⟩
  obtain ⟨U2, hU2⟩ : ∃ z, w5.alloc (.cells #[.slice none 0 0, .string ⟨#[]⟩, .bool false, .int .u8 0, .int .i64 0, .slice none 0 0, .string ⟨#[]⟩, .string ⟨#[]⟩, .string ⟨#[]⟩, .string ⟨#[]⟩] 27) = z := ⟨_, rfl⟩
  have HB : Hid (Lc 27 q2 zmC U2 ∧ Kp w5 U2 ∧ w5.heap.size ≤ q2) := by
    rw [← hU2, ← hq2]; exact ⟨box_new w5, kp_alloc _ _, Nat.le_refl _⟩
  go_upto_region 8 with (refine wpList_store_box HB.out.1 0 (cmC { c with rg := two a b } (.slice rb 2 rd) (.slice db c.dest.length dd)) rfl 27 (.tmp 10) (.tmp 77) rfl rfl rfl (Nat.le_refl 10) sizeCmd (cmC_one _ _ _ _ _ _ _) rfl ?_; intro w7 x1 x2 x3; have HE0 : Hid (Lc 27 q2 (cmC { c with rg := two a b } (.slice rb 2 rd) (.slice db c.dest.length dd)) w7 ∧ Kp w5 w7) := ⟨x1, kp_on HB.out.2.1 x2 HB.out.2.2⟩; clear x1 x2 x3)
  have k47 : Kp w4 w7 := kp_trans (kp_trans HF.out HA.out.2.2) HE0.out.2
  have hq12 : q1 < q2 := by
    have i1 : q1 < w4.heap.size := HC.out.1.lt
    have i2 := (kp_trans HF.out HA.out.2.2).size
    have i3 := HB.out.2.2
    omega
  obtain ⟨w8, hw8⟩ : ∃ z, w7.setCell ⟨q2, 0, none⟩ (.slice none 0 0) = z := ⟨_, rfl⟩
  have f78 : Fr (On q2) w7 w8 := by rw [← hw8]; exact fr_set _ _ _ _
  have HG : Hid (Lc 27 q1 (cmC c (.slice ra c.rg.length rc) (.slice da c.dest.length dc)) w8 ∧ Lc 27 q2 (cmC c (.slice none 0 0) (.slice db c.dest.length dd)) w8) :=
    ⟨(HC.out.1.kp k47).fr f78 (by unfold On; omega), by rw [← hw8]; exact HE0.out.1.set 0 (.slice none 0 0)⟩
  obtain ⟨g, rfl⟩ : ∃ g, rb = some ⟨g, 0, none⟩ := by
    rcases HA.out.1.2 with ⟨e, e0⟩ | ⟨g, _, _, e, _⟩
    · cases e0
    · cases e; exact ⟨g, rfl⟩
  have S0 := six_of (l := two a b) (i := 0) (row_kp HA.out.1 HE0.out.2) rfl
  have S1 := six_of (l := two a b) (i := 1) (row_kp HA.out.1 HE0.out.2) rfl
  have s1 : w7.cell? ⟨g, 1, none⟩ = some (.int .i64 (a : Int)) := S0.k1
  have s2 : w7.cell? ⟨g, 7, none⟩ = some (.int .i64 (b : Int)) := S1.k1
  have t0 : w7.cell? ⟨q2, 0, none⟩ = some (.slice (some ⟨g, 0, none⟩) 2 rd) := HE0.out.1.at (j := 0) rfl
  have t1 : w7.frozen? ⟨q2, 0, none⟩ = false := HE0.out.1.fz 0
  have k48 : Kp w4 w8 := by
    have i2 := (kp_trans HF.out HA.out.2.2).size
    have i3 := HB.out.2.2
    rw [← hw8]; exact kp_new k47 (by omega)
  have k58 : Kp w5 w8 := by rw [← hw8]; exact kp_new HE0.out.2 HB.out.2.2
  have hl0 : c.rg.length = 0 := by rw [HR.out]; rfl
  have HS : Hid (Calls Tryz.prog 14 #[.agg (cmC c (.slice ra c.rg.length rc) (.slice da c.dest.length dc)).toArray, .agg (cmC c (.slice none 0 0) (.slice db c.dest.length dd)).toArray] w8 fun e w' => e = .returned (.bool true) ∧ Kp w8 w') :=
    same_core c (fun z k => by rw [hl0]; exact adsame0 _ _ _ _ z) (fun z k => adsame_any (row_kp (row_kp HD.out.2 k48) k) (row_kp (row_kp HA.out.2.1 k58) k))
  have HX : Hid (Kp w w8) := kp_trans HC.out.2.2 k48
  have x0 : w8.cell? ⟨q1, 0, none⟩ = some (.slice ra c.rg.length rc) := HG.out.1.at (j := 0) rfl
  have x1 : w8.cell? ⟨q1, 1, none⟩ = some (.string (bA c.name)) := HG.out.1.at (j := 1) rfl
  have x2 : w8.cell? ⟨q1, 2, none⟩ = some (.bool c.bang) := HG.out.1.at (j := 2) rfl
  have x3 : w8.cell? ⟨q1, 3, none⟩ = some (.int .u8 (c.reg : Int)) := HG.out.1.at (j := 3) rfl
  have x4 : w8.cell? ⟨q1, 4, none⟩ = some (.int .i64 c.cnt) := HG.out.1.at (j := 4) rfl
  have x5 : w8.cell? ⟨q1, 5, none⟩ = some (.slice da c.dest.length dc) := HG.out.1.at (j := 5) rfl
  have x6 : w8.cell? ⟨q1, 6, none⟩ = some (.string (bA c.pat)) := HG.out.1.at (j := 6) rfl
  have x7 : w8.cell? ⟨q1, 7, none⟩ = some (.string (bA c.rep)) := HG.out.1.at (j := 7) rfl
  have x8 : w8.cell? ⟨q1, 8, none⟩ = some (.string (bA c.flags)) := HG.out.1.at (j := 8) rfl
  have x9 : w8.cell? ⟨q1, 9, none⟩ = some (.string (bA c.arg)) := HG.out.1.at (j := 9) rfl
  have y10 : w8.cell? ⟨q2, 0, none⟩ = some (.slice none 0 0) := HG.out.2.at (j := 0) rfl
  have y11 : w8.cell? ⟨q2, 1, none⟩ = some (.string (bA c.name)) := HG.out.2.at (j := 1) rfl
  have y12 : w8.cell? ⟨q2, 2, none⟩ = some (.bool c.bang) := HG.out.2.at (j := 2) rfl
  have y13 : w8.cell? ⟨q2, 3, none⟩ = some (.int .u8 (c.reg : Int)) := HG.out.2.at (j := 3) rfl
  have y14 : w8.cell? ⟨q2, 4, none⟩ = some (.int .i64 c.cnt) := HG.out.2.at (j := 4) rfl
  have y15 : w8.cell? ⟨q2, 5, none⟩ = some (.slice db c.dest.length dd) := HG.out.2.at (j := 5) rfl
  have y16 : w8.cell? ⟨q2, 6, none⟩ = some (.string (bA c.pat)) := HG.out.2.at (j := 6) rfl
  have y17 : w8.cell? ⟨q2, 7, none⟩ = some (.string (bA c.rep)) := HG.out.2.at (j := 7) rfl
  have y18 : w8.cell? ⟨q2, 8, none⟩ = some (.string (bA c.flags)) := HG.out.2.at (j := 8) rfl
  have y19 : w8.cell? ⟨q2, 9, none⟩ = some (.string (bA c.arg)) := HG.out.2.at (j := 9) rfl
  clear S0 S1 HA HB HE0 HG k47 k48 k58 hl0 f78 hq12 hU2 hq2 HD HF HC HR Hg
  go_wp2_with fail
  refine Calls.mono HS.out ?_
  rintro e w9 ⟨rfl, k⟩
  have HZ : Hid (Kp w w9) := kp_trans HX.out k
  clear k HS HX x0 x1 x2 x3 x4 x5 x6 x7 x8 x9 y10 y11 y12 y13 y14 y15 y16 y17 y18 y19
  go_wp2_with fail
  go_ret
  exact ⟨rfl, HZ.out⟩
set_option maxHeartbeats 8000000 in
theorem rg_61ok (s : ByteArray) {a b n : Nat} {c c2 : CmP} (ha : a < 65536) (hb : b < 65536) (hs : s.size ≤ 300) (h0 : 0 < s.size) (hX : cmdL s.data.toList = (n, c)) (hY : cmdL (rngL a b s.data.toList) = (n, c2)) (hv : (s[0]'h0).toNat = 61) (hn : n = 0) (hr : c.rg = []) (h2 : c2 = { c with rg := two a b })  (hw : Gs w) : Calls Tryz.prog 8 #[.string s, .int .u16 (a : Int), .int .u16 (b : Int)] w fun e w' => e = .returned (.bool true) ∧ Kp w w' := by
  have H1 : Hid (Calls Tryz.prog 11 #[] w fun e w' => e = .returned (.bool true) ∧ Kp w w') := known_any hw
  have Hg : Hid (∀ z, Kp w z → Gs z) := fun z k => hw.kp k
  have H2 : Hid (∀ z, Gs z → Calls Tryz.prog 12 #[.string s] z _) := fun z hz => parse_at s (by omega) hX hz
  have hZ := rgx_size (s := s) ha hb hs
  have hY2 : cmdL ((⟨#[32, 58]⟩ : ByteArray) ++ bA (digs a) ++ ⟨#[32, 44, 32]⟩ ++ bA (digs b) ++ ⟨#[32]⟩ ++ s).data.toList = (n, c2) := by rw [rgx_list]; exact hY
  have D1 : Hid (∀ z, Calls Tryz.prog 13 #[.int .i64 (a : Int)] z _) := fun z => digits_any a (by omega) z
  have D2 : Hid (∀ z, Calls Tryz.prog 13 #[.int .i64 (b : Int)] z _) := fun z => digits_any b (by omega) z
  have y1 : (bA (digs a)).size ≤ 6 := by show (digs a).toArray.size ≤ 6; simpa using digs_len 5 (n := a) (by omega)
  have y2 : (bA (digs b)).size ≤ 6 := by show (digs b).toArray.size ≤ 6; simpa using digs_len 5 (n := b) (by omega)
  obtain ⟨A, hA⟩ : ∃ A, bA (digs a) = A := ⟨_, rfl⟩
  obtain ⟨B, hB⟩ : ∃ B, bA (digs b) = B := ⟨_, rfl⟩
  rw [hA] at D1 y1 hZ hY2; rw [hB] at D2 y2 hZ hY2
  have H3 : Hid (∀ z, Gs z → Calls Tryz.prog 12 #[.string ((⟨#[32, 58]⟩ : ByteArray) ++ A ++ ⟨#[32, 44, 32]⟩ ++ B ++ ⟨#[32]⟩ ++ s)] z _) := fun z hz => parse_at _ (by omega) hY2 hz
  have g1 : decide ((s.size : Int) > 300) = false := decide_eq_false (by omega)
  have g2 : decide ((300 : Int) < (s.size : Int)) = false := decide_eq_false (by omega)
  have g3 : decide (300 < s.size) = false := decide_eq_false (by omega)
  have g4 : ((s.size : Int) == 0) = false := by rw [beq_eq_false_iff_ne]; omega
  have f1 := hv
  subst hn; subst h2
  have HR : Hid (c.rg = []) := hr
  clear hr
  clear hw hX hY hY2 hZ hA hB
  go_enter Tryz.func8, Tryz.ntmps8
  go_wp2_with fail
  refine Calls.mono H1.out ?_
  rintro e w1 ⟨rfl, k1⟩
  have HK : Hid (Kp w w1) := k1
  clear k1 H1
  go_wp2_with fail
  refine Calls.mono (H2.out _ (Hg.out _ HK.out)) ?_
  rintro e w3 ⟨ra, rc, da, dc, rfl, HA⟩
  clear H2
  obtain ⟨q1, hq1⟩ : ∃ q, w3.heap.size = q := ⟨_, rfl⟩
  obtain ⟨U1, hU1⟩ : ∃ z, w3.alloc (.cells #[.slice none 0 0, .string ⟨#[]⟩, .bool false, .int .u8 0, .int .i64 0, .slice none 0 0, .string ⟨#[]⟩, .string ⟨#[]⟩, .string ⟨#[]⟩, .string ⟨#[]⟩] 27) = z := ⟨_, rfl⟩
  have HB : Hid (Lc 27 q1 zmC U1 ∧ Kp w3 U1 ∧ w3.heap.size ≤ q1) := by
    rw [← hU1, ← hq1]; exact ⟨box_new w3, kp_alloc _ _, Nat.le_refl _⟩
  go_upto_region 7 with (refine wpList_store_box HB.out.1 0 (cmC c (.slice ra c.rg.length rc) (.slice da c.dest.length dc)) rfl 27 (.tmp 8) (.tmp 61) rfl rfl rfl (Nat.le_refl 10) sizeCmd (cmC_one _ _ _ _ _ _ _) rfl ?_; intro w4 x1 x2 x3; have HC : Hid (Lc 27 q1 (cmC c (.slice ra c.rg.length rc) (.slice da c.dest.length dc)) w4 ∧ Kp w3 w4 ∧ Kp w w4) := ⟨x1, kp_on HB.out.2.1 x2 HB.out.2.2, kp_trans (kp_trans HK.out HA.out.2.2) (kp_on HB.out.2.1 x2 HB.out.2.2)⟩; clear x1 x2 x3)
  have HD : Hid (w4.ownsRow w1.heap.size 43 6 (.slice ra c.rg.length rc) c.rg.length (adCs c.rg) ∧ w4.ownsRow w1.heap.size 43 6 (.slice da c.dest.length dc) c.dest.length (adCs c.dest)) := ⟨row_kp HA.out.1 HC.out.2.1, row_kp HA.out.2.1 HC.out.2.1⟩
  clear HA HB hq1 hU1 HK
  go_wp2_with fail
  refine Calls.mono (D1.out _) ?_
  rintro e v1 ⟨rfl, k1⟩
  have HE : Hid (Kp w4 v1) := k1
  clear k1 D1
  go_wp2_with fail
  refine Calls.mono (D2.out _) ?_
  rintro e v2 ⟨rfl, k1⟩
  have HF : Hid (Kp w4 v2) := kp_trans HE.out k1
  clear k1 D2 HE
  go_wp2_with fail
  refine Calls.mono (H3.out _ (Hg.out _ (kp_trans HC.out.2.2 HF.out))) ?_
  rintro e w5 ⟨rb, rd, db, dd, rfl, HA⟩
  clear H3
  obtain ⟨q2, hq2⟩ : ∃ q, w5.heap.size = q := ⟨_, rfl⟩
  obtain ⟨U2, hU2⟩ : ∃ z, w5.alloc (.cells #[.slice none 0 0, .string ⟨#[]⟩, .bool false, .int .u8 0, .int .i64 0, .slice none 0 0, .string ⟨#[]⟩, .string ⟨#[]⟩, .string ⟨#[]⟩, .string ⟨#[]⟩] 27) = z := ⟨_, rfl⟩
  have HB : Hid (Lc 27 q2 zmC U2 ∧ Kp w5 U2 ∧ w5.heap.size ≤ q2) := by
    rw [← hU2, ← hq2]; exact ⟨box_new w5, kp_alloc _ _, Nat.le_refl _⟩
  go_upto_region 8 with (refine wpList_store_box HB.out.1 0 (cmC { c with rg := two a b } (.slice rb 2 rd) (.slice db c.dest.length dd)) rfl 27 (.tmp 10) (.tmp 77) rfl rfl rfl (Nat.le_refl 10) sizeCmd (cmC_one _ _ _ _ _ _ _) rfl ?_; intro w7 x1 x2 x3; have HE0 : Hid (Lc 27 q2 (cmC { c with rg := two a b } (.slice rb 2 rd) (.slice db c.dest.length dd)) w7 ∧ Kp w5 w7) := ⟨x1, kp_on HB.out.2.1 x2 HB.out.2.2⟩; clear x1 x2 x3)
  have k47 : Kp w4 w7 := kp_trans (kp_trans HF.out HA.out.2.2) HE0.out.2
  have hq12 : q1 < q2 := by
    have i1 : q1 < w4.heap.size := HC.out.1.lt
    have i2 := (kp_trans HF.out HA.out.2.2).size
    have i3 := HB.out.2.2
    omega
  obtain ⟨w8, hw8⟩ : ∃ z, w7.setCell ⟨q2, 0, none⟩ (.slice none 0 0) = z := ⟨_, rfl⟩
  have f78 : Fr (On q2) w7 w8 := by rw [← hw8]; exact fr_set _ _ _ _
  have HG : Hid (Lc 27 q1 (cmC c (.slice ra c.rg.length rc) (.slice da c.dest.length dc)) w8 ∧ Lc 27 q2 (cmC c (.slice none 0 0) (.slice db c.dest.length dd)) w8) :=
    ⟨(HC.out.1.kp k47).fr f78 (by unfold On; omega), by rw [← hw8]; exact HE0.out.1.set 0 (.slice none 0 0)⟩
  obtain ⟨g, rfl⟩ : ∃ g, rb = some ⟨g, 0, none⟩ := by
    rcases HA.out.1.2 with ⟨e, e0⟩ | ⟨g, _, _, e, _⟩
    · cases e0
    · cases e; exact ⟨g, rfl⟩
  have S0 := six_of (l := two a b) (i := 0) (row_kp HA.out.1 HE0.out.2) rfl
  have S1 := six_of (l := two a b) (i := 1) (row_kp HA.out.1 HE0.out.2) rfl
  have s1 : w7.cell? ⟨g, 1, none⟩ = some (.int .i64 (a : Int)) := S0.k1
  have s2 : w7.cell? ⟨g, 7, none⟩ = some (.int .i64 (b : Int)) := S1.k1
  have t0 : w7.cell? ⟨q2, 0, none⟩ = some (.slice (some ⟨g, 0, none⟩) 2 rd) := HE0.out.1.at (j := 0) rfl
  have t1 : w7.frozen? ⟨q2, 0, none⟩ = false := HE0.out.1.fz 0
  have k48 : Kp w4 w8 := by
    have i2 := (kp_trans HF.out HA.out.2.2).size
    have i3 := HB.out.2.2
    rw [← hw8]; exact kp_new k47 (by omega)
  have k58 : Kp w5 w8 := by rw [← hw8]; exact kp_new HE0.out.2 HB.out.2.2
  have hl0 : c.rg.length = 0 := by rw [HR.out]; rfl
  have HS : Hid (Calls Tryz.prog 14 #[.agg (cmC c (.slice ra c.rg.length rc) (.slice da c.dest.length dc)).toArray, .agg (cmC c (.slice none 0 0) (.slice db c.dest.length dd)).toArray] w8 fun e w' => e = .returned (.bool true) ∧ Kp w8 w') :=
    same_core c (fun z k => by rw [hl0]; exact adsame0 _ _ _ _ z) (fun z k => adsame_any (row_kp (row_kp HD.out.2 k48) k) (row_kp (row_kp HA.out.2.1 k58) k))
  have HX : Hid (Kp w w8) := kp_trans HC.out.2.2 k48
  have x0 : w8.cell? ⟨q1, 0, none⟩ = some (.slice ra c.rg.length rc) := HG.out.1.at (j := 0) rfl
  have x1 : w8.cell? ⟨q1, 1, none⟩ = some (.string (bA c.name)) := HG.out.1.at (j := 1) rfl
  have x2 : w8.cell? ⟨q1, 2, none⟩ = some (.bool c.bang) := HG.out.1.at (j := 2) rfl
  have x3 : w8.cell? ⟨q1, 3, none⟩ = some (.int .u8 (c.reg : Int)) := HG.out.1.at (j := 3) rfl
  have x4 : w8.cell? ⟨q1, 4, none⟩ = some (.int .i64 c.cnt) := HG.out.1.at (j := 4) rfl
  have x5 : w8.cell? ⟨q1, 5, none⟩ = some (.slice da c.dest.length dc) := HG.out.1.at (j := 5) rfl
  have x6 : w8.cell? ⟨q1, 6, none⟩ = some (.string (bA c.pat)) := HG.out.1.at (j := 6) rfl
  have x7 : w8.cell? ⟨q1, 7, none⟩ = some (.string (bA c.rep)) := HG.out.1.at (j := 7) rfl
  have x8 : w8.cell? ⟨q1, 8, none⟩ = some (.string (bA c.flags)) := HG.out.1.at (j := 8) rfl
  have x9 : w8.cell? ⟨q1, 9, none⟩ = some (.string (bA c.arg)) := HG.out.1.at (j := 9) rfl
  have y10 : w8.cell? ⟨q2, 0, none⟩ = some (.slice none 0 0) := HG.out.2.at (j := 0) rfl
  have y11 : w8.cell? ⟨q2, 1, none⟩ = some (.string (bA c.name)) := HG.out.2.at (j := 1) rfl
  have y12 : w8.cell? ⟨q2, 2, none⟩ = some (.bool c.bang) := HG.out.2.at (j := 2) rfl
  have y13 : w8.cell? ⟨q2, 3, none⟩ = some (.int .u8 (c.reg : Int)) := HG.out.2.at (j := 3) rfl
  have y14 : w8.cell? ⟨q2, 4, none⟩ = some (.int .i64 c.cnt) := HG.out.2.at (j := 4) rfl
  have y15 : w8.cell? ⟨q2, 5, none⟩ = some (.slice db c.dest.length dd) := HG.out.2.at (j := 5) rfl
  have y16 : w8.cell? ⟨q2, 6, none⟩ = some (.string (bA c.pat)) := HG.out.2.at (j := 6) rfl
  have y17 : w8.cell? ⟨q2, 7, none⟩ = some (.string (bA c.rep)) := HG.out.2.at (j := 7) rfl
  have y18 : w8.cell? ⟨q2, 8, none⟩ = some (.string (bA c.flags)) := HG.out.2.at (j := 8) rfl
  have y19 : w8.cell? ⟨q2, 9, none⟩ = some (.string (bA c.arg)) := HG.out.2.at (j := 9) rfl
  clear S0 S1 HA HB HE0 HG k47 k48 k58 hl0 f78 hq12 hU2 hq2 HD HF HC HR Hg
  go_wp2_with fail
  refine Calls.mono HS.out ?_
  rintro e w9 ⟨rfl, k⟩
  have HZ : Hid (Kp w w9) := kp_trans HX.out k
  clear k HS HX x0 x1 x2 x3 x4 x5 x6 x7 x8 x9 y10 y11 y12 y13 y14 y15 y16 y17 y18 y19
  go_wp2_with fail
  go_ret
  exact ⟨rfl, HZ.out⟩
end
end Go.Proofs.YtfgapmfjfienhaaGreatDoor
/- CmdRange: the walk, a fault behind numbers. -/
namespace Go.Proofs.YtfgapmfjfienhaaGreatDoor
open Go.ChangeShapes Go.WideShapes Go.ChangeAt Go.RowKit Go.Maps Go.MapKept
set_option linter.unusedVariables false
set_option linter.unusedSimpArgs false
set_option maxRecDepth 100000
section
variable {w : World}
set_option maxHeartbeats 8000000 in
theorem rg_letno (s : ByteArray) {a b n : Nat} {c c2 : CmP} (ha : a < 65536) (hb : b < 65536) (hs : s.size ≤ 300) (h0 : 0 < s.size) (hX : cmdL s.data.toList = (n, c)) (hY : cmdL (rngL a b s.data.toList) = (n, c2)) (hc : 97 ≤ (s[0]'h0).toNat) (hd : (s[0]'h0).toNat ≤ 122) (hn : n ≠ 0)  (hw : Gs w) : Calls Tryz.prog 8 #[.string s, .int .u16 (a : Int), .int .u16 (b : Int)] w fun e w' => e = .returned (.bool true) ∧ Kp w w' := by
  have H1 : Hid (Calls Tryz.prog 11 #[] w fun e w' => e = .returned (.bool true) ∧ Kp w w') := known_any hw
  have Hg : Hid (∀ z, Kp w z → Gs z) := fun z k => hw.kp k
  have H2 : Hid (∀ z, Gs z → Calls Tryz.prog 12 #[.string s] z _) := fun z hz => parse_at s (by omega) hX hz
  have hZ := rgx_size (s := s) ha hb hs
  have hY2 : cmdL ((⟨#[32, 58]⟩ : ByteArray) ++ bA (digs a) ++ ⟨#[32, 44, 32]⟩ ++ bA (digs b) ++ ⟨#[32]⟩ ++ s).data.toList = (n, c2) := by rw [rgx_list]; exact hY
  have D1 : Hid (∀ z, Calls Tryz.prog 13 #[.int .i64 (a : Int)] z _) := fun z => digits_any a (by omega) z
  have D2 : Hid (∀ z, Calls Tryz.prog 13 #[.int .i64 (b : Int)] z _) := fun z => digits_any b (by omega) z
  have y1 : (bA (digs a)).size ≤ 6 := by show (digs a).toArray.size ≤ 6; simpa using digs_len 5 (n := a) (by omega)
  have y2 : (bA (digs b)).size ≤ 6 := by show (digs b).toArray.size ≤ 6; simpa using digs_len 5 (n := b) (by omega)
  obtain ⟨A, hA⟩ : ∃ A, bA (digs a) = A := ⟨_, rfl⟩
  obtain ⟨B, hB⟩ : ∃ B, bA (digs b) = B := ⟨_, rfl⟩
  rw [hA] at D1 y1 hZ hY2; rw [hB] at D2 y2 hZ hY2
  have H3 : Hid (∀ z, Gs z → Calls Tryz.prog 12 #[.string ((⟨#[32, 58]⟩ : ByteArray) ++ A ++ ⟨#[32, 44, 32]⟩ ++ B ++ ⟨#[32]⟩ ++ s)] z _) := fun z hz => parse_at _ (by omega) hY2 hz
  have g1 : decide ((s.size : Int) > 300) = false := decide_eq_false (by omega)
  have g2 : decide ((300 : Int) < (s.size : Int)) = false := decide_eq_false (by omega)
  have g3 : decide (300 < s.size) = false := decide_eq_false (by omega)
  have g4 : ((s.size : Int) == 0) = false := by rw [beq_eq_false_iff_ne]; omega
  have f1 : decide ((97 : Int) ≤ ((s[0]'h0).toNat : Int)) = true := decide_eq_true (by omega)
  have f2 : decide (((s[0]'h0).toNat : Int) ≤ 122) = true := decide_eq_true (by omega)
  have n1 : ((n : Int) == 0) = false := by rw [beq_eq_false_iff_ne]; omega
  have n2 : (n == 0) = false := by rw [beq_eq_false_iff_ne]; exact hn
  have n3 : ((n : Int) != 0) = true := by rw [bne_iff_ne]; omega
  clear hw hX hY hY2 hZ hA hB
  go_enter Tryz.func8, Tryz.ntmps8
  go_wp2_with fail
  refine Calls.mono H1.out ?_
  rintro e w1 ⟨rfl, k1⟩
  have HK : Hid (Kp w w1) := k1
  clear k1 H1
  go_wp2_with fail
  refine Calls.mono (H2.out _ (Hg.out _ HK.out)) ?_
  rintro e w3 ⟨ra, rc, da, dc, rfl, HA⟩
  clear H2
  obtain ⟨q1, hq1⟩ : ∃ q, w3.heap.size = q := ⟨_, rfl⟩
  obtain ⟨U1, hU1⟩ : ∃ z, w3.alloc (.cells #[.slice none 0 0, .string ⟨#[]⟩, .bool false, .int .u8 0, .int .i64 0, .slice none 0 0, .string ⟨#[]⟩, .string ⟨#[]⟩, .string ⟨#[]⟩, .string ⟨#[]⟩] 27) = z := ⟨_, rfl⟩
  have HB : Hid (Lc 27 q1 zmC U1 ∧ Kp w3 U1 ∧ w3.heap.size ≤ q1) := by
    rw [← hU1, ← hq1]; exact ⟨box_new w3, kp_alloc _ _, Nat.le_refl _⟩
  go_upto_region 7 with (refine wpList_store_box HB.out.1 0 (cmC c (.slice ra c.rg.length rc) (.slice da c.dest.length dc)) rfl 27 (.tmp 8) (.tmp 61) rfl rfl rfl (Nat.le_refl 10) sizeCmd (cmC_one _ _ _ _ _ _ _) rfl ?_; intro w4 x1 x2 x3; have HC : Hid (Lc 27 q1 (cmC c (.slice ra c.rg.length rc) (.slice da c.dest.length dc)) w4 ∧ Kp w3 w4 ∧ Kp w w4) := ⟨x1, kp_on HB.out.2.1 x2 HB.out.2.2, kp_trans (kp_trans HK.out HA.out.2.2) (kp_on HB.out.2.1 x2 HB.out.2.2)⟩; clear x1 x2 x3)
  have HD : Hid (w4.ownsRow w1.heap.size 43 6 (.slice ra c.rg.length rc) c.rg.length (adCs c.rg) ∧ w4.ownsRow w1.heap.size 43 6 (.slice da c.dest.length dc) c.dest.length (adCs c.dest)) := ⟨row_kp HA.out.1 HC.out.2.1, row_kp HA.out.2.1 HC.out.2.1⟩
  clear HA HB hq1 hU1 HK
  go_wp2_with fail
  refine Calls.mono (D1.out _) ?_
  rintro e v1 ⟨rfl, k1⟩
  have HE : Hid (Kp w4 v1) := k1
  clear k1 D1
  go_wp2_with fail
  refine Calls.mono (D2.out _) ?_
  rintro e v2 ⟨rfl, k1⟩
  have HF : Hid (Kp w4 v2) := kp_trans HE.out k1
  clear k1 D2 HE
  go_wp2_with fail
  refine Calls.mono (H3.out _ (Hg.out _ (kp_trans HC.out.2.2 HF.out))) ?_
  rintro e w5 ⟨rb, rd, db, dd, rfl, HA⟩
  clear H3
  obtain ⟨q2, hq2⟩ : ∃ q, w5.heap.size = q := ⟨_, rfl⟩
  obtain ⟨U2, hU2⟩ : ∃ z, w5.alloc (.cells #[.slice none 0 0, .string ⟨#[]⟩, .bool false, .int .u8 0, .int .i64 0, .slice none 0 0, .string ⟨#[]⟩, .string ⟨#[]⟩, .string ⟨#[]⟩, .string ⟨#[]⟩] 27) = z := ⟨_, rfl⟩
  have HB : Hid (Lc 27 q2 zmC U2 ∧ Kp w5 U2 ∧ w5.heap.size ≤ q2) := by
    rw [← hU2, ← hq2]; exact ⟨box_new w5, kp_alloc _ _, Nat.le_refl _⟩
  go_upto_region 8 with (refine wpList_store_box HB.out.1 0 (cmC c2 (.slice rb c2.rg.length rd) (.slice db c2.dest.length dd)) rfl 27 (.tmp 10) (.tmp 77) rfl rfl rfl (Nat.le_refl 10) sizeCmd (cmC_one _ _ _ _ _ _ _) rfl ?_; intro w7 x1 x2 x3; have HE0 : Hid (Kp w5 w7) := kp_on HB.out.2.1 x2 HB.out.2.2; clear x1 x2 x3)
  have HX : Hid (Kp w w7) := kp_trans HC.out.2.2 (kp_trans (kp_trans HF.out HA.out.2.2) HE0.out)
  clear HA HB hq2 hU2 HC HD HF HE0 Hg
  go_wp2_with fail
  go_ret
  exact ⟨rfl, HX.out⟩
set_option maxHeartbeats 8000000 in
theorem rg_62no (s : ByteArray) {a b n : Nat} {c c2 : CmP} (ha : a < 65536) (hb : b < 65536) (hs : s.size ≤ 300) (h0 : 0 < s.size) (hX : cmdL s.data.toList = (n, c)) (hY : cmdL (rngL a b s.data.toList) = (n, c2)) (hv : (s[0]'h0).toNat = 62) (hn : n ≠ 0)  (hw : Gs w) : Calls Tryz.prog 8 #[.string s, .int .u16 (a : Int), .int .u16 (b : Int)] w fun e w' => e = .returned (.bool true) ∧ Kp w w' := by
  have H1 : Hid (Calls Tryz.prog 11 #[] w fun e w' => e = .returned (.bool true) ∧ Kp w w') := known_any hw
  have Hg : Hid (∀ z, Kp w z → Gs z) := fun z k => hw.kp k
  have H2 : Hid (∀ z, Gs z → Calls Tryz.prog 12 #[.string s] z _) := fun z hz => parse_at s (by omega) hX hz
  have hZ := rgx_size (s := s) ha hb hs
  have hY2 : cmdL ((⟨#[32, 58]⟩ : ByteArray) ++ bA (digs a) ++ ⟨#[32, 44, 32]⟩ ++ bA (digs b) ++ ⟨#[32]⟩ ++ s).data.toList = (n, c2) := by rw [rgx_list]; exact hY
  have D1 : Hid (∀ z, Calls Tryz.prog 13 #[.int .i64 (a : Int)] z _) := fun z => digits_any a (by omega) z
  have D2 : Hid (∀ z, Calls Tryz.prog 13 #[.int .i64 (b : Int)] z _) := fun z => digits_any b (by omega) z
  have y1 : (bA (digs a)).size ≤ 6 := by show (digs a).toArray.size ≤ 6; simpa using digs_len 5 (n := a) (by omega)
  have y2 : (bA (digs b)).size ≤ 6 := by show (digs b).toArray.size ≤ 6; simpa using digs_len 5 (n := b) (by omega)
  obtain ⟨A, hA⟩ : ∃ A, bA (digs a) = A := ⟨_, rfl⟩
  obtain ⟨B, hB⟩ : ∃ B, bA (digs b) = B := ⟨_, rfl⟩
  rw [hA] at D1 y1 hZ hY2; rw [hB] at D2 y2 hZ hY2
  have H3 : Hid (∀ z, Gs z → Calls Tryz.prog 12 #[.string ((⟨#[32, 58]⟩ : ByteArray) ++ A ++ ⟨#[32, 44, 32]⟩ ++ B ++ ⟨#[32]⟩ ++ s)] z _) := fun z hz => parse_at _ (by omega) hY2 hz
  have g1 : decide ((s.size : Int) > 300) = false := decide_eq_false (by omega)
  have g2 : decide ((300 : Int) < (s.size : Int)) = false := decide_eq_false (by omega)
  have g3 : decide (300 < s.size) = false := decide_eq_false (by omega)
  have g4 : ((s.size : Int) == 0) = false := by rw [beq_eq_false_iff_ne]; omega
  have f1 := hv
  have n1 : ((n : Int) == 0) = false := by rw [beq_eq_false_iff_ne]; omega
  have n2 : (n == 0) = false := by rw [beq_eq_false_iff_ne]; exact hn
  have n3 : ((n : Int) != 0) = true := by rw [bne_iff_ne]; omega
  clear hw hX hY hY2 hZ hA hB
  go_enter Tryz.func8, Tryz.ntmps8
  go_wp2_with fail
  refine Calls.mono H1.out ?_
  rintro e w1 ⟨rfl, k1⟩
  have HK : Hid (Kp w w1) := k1
  clear k1 H1
  go_wp2_with fail
  refine Calls.mono (H2.out _ (Hg.out _ HK.out)) ?_
  rintro e w3 ⟨ra, rc, da, dc, rfl, HA⟩
  clear H2
  obtain ⟨q1, hq1⟩ : ∃ q, w3.heap.size = q := ⟨_, rfl⟩
  obtain ⟨U1, hU1⟩ : ∃ z, w3.alloc (.cells #[.slice none 0 0, .string ⟨#[]⟩, .bool false, .int .u8 0, .int .i64 0, .slice none 0 0, .string ⟨#[]⟩, .string ⟨#[]⟩, .string ⟨#[]⟩, .string ⟨#[]⟩] 27) = z := ⟨_, rfl⟩
  have HB : Hid (Lc 27 q1 zmC U1 ∧ Kp w3 U1 ∧ w3.heap.size ≤ q1) := by
    rw [← hU1, ← hq1]; exact ⟨box_new w3, kp_alloc _ _, Nat.le_refl _⟩
  go_upto_region 7 with (refine wpList_store_box HB.out.1 0 (cmC c (.slice ra c.rg.length rc) (.slice da c.dest.length dc)) rfl 27 (.tmp 8) (.tmp 61) rfl rfl rfl (Nat.le_refl 10) sizeCmd (cmC_one _ _ _ _ _ _ _) rfl ?_; intro w4 x1 x2 x3; have HC : Hid (Lc 27 q1 (cmC c (.slice ra c.rg.length rc) (.slice da c.dest.length dc)) w4 ∧ Kp w3 w4 ∧ Kp w w4) := ⟨x1, kp_on HB.out.2.1 x2 HB.out.2.2, kp_trans (kp_trans HK.out HA.out.2.2) (kp_on HB.out.2.1 x2 HB.out.2.2)⟩; clear x1 x2 x3)
  have HD : Hid (w4.ownsRow w1.heap.size 43 6 (.slice ra c.rg.length rc) c.rg.length (adCs c.rg) ∧ w4.ownsRow w1.heap.size 43 6 (.slice da c.dest.length dc) c.dest.length (adCs c.dest)) := ⟨row_kp HA.out.1 HC.out.2.1, row_kp HA.out.2.1 HC.out.2.1⟩
  clear HA HB hq1 hU1 HK
  go_wp2_with fail
  refine Calls.mono (D1.out _) ?_
  rintro e v1 ⟨rfl, k1⟩
  have HE : Hid (Kp w4 v1) := k1
  clear k1 D1
  go_wp2_with fail
  refine Calls.mono (D2.out _) ?_
  rintro e v2 ⟨rfl, k1⟩
  have HF : Hid (Kp w4 v2) := kp_trans HE.out k1
  clear k1 D2 HE
  go_wp2_with fail
  refine Calls.mono (H3.out _ (Hg.out _ (kp_trans HC.out.2.2 HF.out))) ?_
  rintro e w5 ⟨rb, rd, db, dd, rfl, HA⟩
  clear H3
  obtain ⟨q2, hq2⟩ : ∃ q, w5.heap.size = q := ⟨_, rfl⟩
  obtain ⟨U2, hU2⟩ : ∃ z, w5.alloc (.cells #[.slice none 0 0, .string ⟨#[]⟩, .bool false, .int .u8 0, .int .i64 0, .slice none 0 0, .string ⟨#[]⟩, .string ⟨#[]⟩, .string ⟨#[]⟩, .string ⟨#[]⟩] 27) = z := ⟨_, rfl⟩
  have HB : Hid (Lc 27 q2 zmC U2 ∧ Kp w5 U2 ∧ w5.heap.size ≤ q2) := by
    rw [← hU2, ← hq2]; exact ⟨box_new w5, kp_alloc _ _, Nat.le_refl _⟩
  go_upto_region 8 with (refine wpList_store_box HB.out.1 0 (cmC c2 (.slice rb c2.rg.length rd) (.slice db c2.dest.length dd)) rfl 27 (.tmp 10) (.tmp 77) rfl rfl rfl (Nat.le_refl 10) sizeCmd (cmC_one _ _ _ _ _ _ _) rfl ?_; intro w7 x1 x2 x3; have HE0 : Hid (Kp w5 w7) := kp_on HB.out.2.1 x2 HB.out.2.2; clear x1 x2 x3)
  have HX : Hid (Kp w w7) := kp_trans HC.out.2.2 (kp_trans (kp_trans HF.out HA.out.2.2) HE0.out)
  clear HA HB hq2 hU2 HC HD HF HE0 Hg
  go_wp2_with fail
  go_ret
  exact ⟨rfl, HX.out⟩
set_option maxHeartbeats 8000000 in
theorem rg_60no (s : ByteArray) {a b n : Nat} {c c2 : CmP} (ha : a < 65536) (hb : b < 65536) (hs : s.size ≤ 300) (h0 : 0 < s.size) (hX : cmdL s.data.toList = (n, c)) (hY : cmdL (rngL a b s.data.toList) = (n, c2)) (hv : (s[0]'h0).toNat = 60) (hn : n ≠ 0)  (hw : Gs w) : Calls Tryz.prog 8 #[.string s, .int .u16 (a : Int), .int .u16 (b : Int)] w fun e w' => e = .returned (.bool true) ∧ Kp w w' := by
  have H1 : Hid (Calls Tryz.prog 11 #[] w fun e w' => e = .returned (.bool true) ∧ Kp w w') := known_any hw
  have Hg : Hid (∀ z, Kp w z → Gs z) := fun z k => hw.kp k
  have H2 : Hid (∀ z, Gs z → Calls Tryz.prog 12 #[.string s] z _) := fun z hz => parse_at s (by omega) hX hz
  have hZ := rgx_size (s := s) ha hb hs
  have hY2 : cmdL ((⟨#[32, 58]⟩ : ByteArray) ++ bA (digs a) ++ ⟨#[32, 44, 32]⟩ ++ bA (digs b) ++ ⟨#[32]⟩ ++ s).data.toList = (n, c2) := by rw [rgx_list]; exact hY
  have D1 : Hid (∀ z, Calls Tryz.prog 13 #[.int .i64 (a : Int)] z _) := fun z => digits_any a (by omega) z
  have D2 : Hid (∀ z, Calls Tryz.prog 13 #[.int .i64 (b : Int)] z _) := fun z => digits_any b (by omega) z
  have y1 : (bA (digs a)).size ≤ 6 := by show (digs a).toArray.size ≤ 6; simpa using digs_len 5 (n := a) (by omega)
  have y2 : (bA (digs b)).size ≤ 6 := by show (digs b).toArray.size ≤ 6; simpa using digs_len 5 (n := b) (by omega)
  obtain ⟨A, hA⟩ : ∃ A, bA (digs a) = A := ⟨_, rfl⟩
  obtain ⟨B, hB⟩ : ∃ B, bA (digs b) = B := ⟨_, rfl⟩
  rw [hA] at D1 y1 hZ hY2; rw [hB] at D2 y2 hZ hY2
  have H3 : Hid (∀ z, Gs z → Calls Tryz.prog 12 #[.string ((⟨#[32, 58]⟩ : ByteArray) ++ A ++ ⟨#[32, 44, 32]⟩ ++ B ++ ⟨#[32]⟩ ++ s)] z _) := fun z hz => parse_at _ (by omega) hY2 hz
  have g1 : decide ((s.size : Int) > 300) = false := decide_eq_false (by omega)
  have g2 : decide ((300 : Int) < (s.size : Int)) = false := decide_eq_false (by omega)
  have g3 : decide (300 < s.size) = false := decide_eq_false (by omega)
  have g4 : ((s.size : Int) == 0) = false := by rw [beq_eq_false_iff_ne]; omega
  have f1 := hv
  have n1 : ((n : Int) == 0) = false := by rw [beq_eq_false_iff_ne]; omega
  have n2 : (n == 0) = false := by rw [beq_eq_false_iff_ne]; exact hn
  have n3 : ((n : Int) != 0) = true := by rw [bne_iff_ne]; omega
  clear hw hX hY hY2 hZ hA hB
  go_enter Tryz.func8, Tryz.ntmps8
  go_wp2_with fail
  refine Calls.mono H1.out ?_
  rintro e w1 ⟨rfl, k1⟩
  have HK : Hid (Kp w w1) := k1
  clear k1 H1
  go_wp2_with fail
  refine Calls.mono (H2.out _ (Hg.out _ HK.out)) ?_
  rintro e w3 ⟨ra, rc, da, dc, rfl, HA⟩
  clear H2
  obtain ⟨q1, hq1⟩ : ∃ q, w3.heap.size = q := ⟨_, rfl⟩
  obtain ⟨U1, hU1⟩ : ∃ z, w3.alloc (.cells #[.slice none 0 0, .string ⟨#[]⟩, .bool false, .int .u8 0, .int .i64 0, .slice none 0 0, .string ⟨#[]⟩, .string ⟨#[]⟩, .string ⟨#[]⟩, .string ⟨#[]⟩] 27) = z := ⟨_, rfl⟩
  have HB : Hid (Lc 27 q1 zmC U1 ∧ Kp w3 U1 ∧ w3.heap.size ≤ q1) := by
    rw [← hU1, ← hq1]; exact ⟨box_new w3, kp_alloc _ _, Nat.le_refl _⟩
  go_upto_region 7 with (refine wpList_store_box HB.out.1 0 (cmC c (.slice ra c.rg.length rc) (.slice da c.dest.length dc)) rfl 27 (.tmp 8) (.tmp 61) rfl rfl rfl (Nat.le_refl 10) sizeCmd (cmC_one _ _ _ _ _ _ _) rfl ?_; intro w4 x1 x2 x3; have HC : Hid (Lc 27 q1 (cmC c (.slice ra c.rg.length rc) (.slice da c.dest.length dc)) w4 ∧ Kp w3 w4 ∧ Kp w w4) := ⟨x1, kp_on HB.out.2.1 x2 HB.out.2.2, kp_trans (kp_trans HK.out HA.out.2.2) (kp_on HB.out.2.1 x2 HB.out.2.2)⟩; clear x1 x2 x3)
  have HD : Hid (w4.ownsRow w1.heap.size 43 6 (.slice ra c.rg.length rc) c.rg.length (adCs c.rg) ∧ w4.ownsRow w1.heap.size 43 6 (.slice da c.dest.length dc) c.dest.length (adCs c.dest)) := ⟨row_kp HA.out.1 HC.out.2.1, row_kp HA.out.2.1 HC.out.2.1⟩
  clear HA HB hq1 hU1 HK
  go_wp2_with fail
  refine Calls.mono (D1.out _) ?_
  rintro e v1 ⟨rfl, k1⟩
  have HE : Hid (Kp w4 v1) := k1
  clear k1 D1
  go_wp2_with fail
  refine Calls.mono (D2.out _) ?_
  rintro e v2 ⟨rfl, k1⟩
  have HF : Hid (Kp w4 v2) := kp_trans HE.out k1
  clear k1 D2 HE
  go_wp2_with fail
  refine Calls.mono (H3.out _ (Hg.out _ (kp_trans HC.out.2.2 HF.out))) ?_
  rintro e w5 ⟨rb, rd, db, dd, rfl, HA⟩
  clear H3
  obtain ⟨q2, hq2⟩ : ∃ q, w5.heap.size = q := ⟨_, rfl⟩
  obtain ⟨U2, hU2⟩ : ∃ z, w5.alloc (.cells #[.slice none 0 0, .string ⟨#[]⟩, .bool false, .int .u8 0, .int .i64 0, .slice none 0 0, .string ⟨#[]⟩, .string ⟨#[]⟩, .string ⟨#[]⟩, .string ⟨#[]⟩] 27) = z := ⟨_, rfl⟩
  have HB : Hid (Lc 27 q2 zmC U2 ∧ Kp w5 U2 ∧ w5.heap.size ≤ q2) := by
    rw [← hU2, ← hq2]; exact ⟨box_new w5, kp_alloc _ _, Nat.le_refl _⟩
  go_upto_region 8 with (refine wpList_store_box HB.out.1 0 (cmC c2 (.slice rb c2.rg.length rd) (.slice db c2.dest.length dd)) rfl 27 (.tmp 10) (.tmp 77) rfl rfl rfl (Nat.le_refl 10) sizeCmd (cmC_one _ _ _ _ _ _ _) rfl ?_; intro w7 x1 x2 x3; have HE0 : Hid (Kp w5 w7) := kp_on HB.out.2.1 x2 HB.out.2.2; clear x1 x2 x3)
  have HX : Hid (Kp w w7) := kp_trans HC.out.2.2 (kp_trans (kp_trans HF.out HA.out.2.2) HE0.out)
  clear HA HB hq2 hU2 HC HD HF HE0 Hg
  go_wp2_with fail
  go_ret
  exact ⟨rfl, HX.out⟩
set_option maxHeartbeats 8000000 in
theorem rg_38no (s : ByteArray) {a b n : Nat} {c c2 : CmP} (ha : a < 65536) (hb : b < 65536) (hs : s.size ≤ 300) (h0 : 0 < s.size) (hX : cmdL s.data.toList = (n, c)) (hY : cmdL (rngL a b s.data.toList) = (n, c2)) (hv : (s[0]'h0).toNat = 38) (hn : n ≠ 0)  (hw : Gs w) : Calls Tryz.prog 8 #[.string s, .int .u16 (a : Int), .int .u16 (b : Int)] w fun e w' => e = .returned (.bool true) ∧ Kp w w' := by
  have H1 : Hid (Calls Tryz.prog 11 #[] w fun e w' => e = .returned (.bool true) ∧ Kp w w') := known_any hw
  have Hg : Hid (∀ z, Kp w z → Gs z) := fun z k => hw.kp k
  have H2 : Hid (∀ z, Gs z → Calls Tryz.prog 12 #[.string s] z _) := fun z hz => parse_at s (by omega) hX hz
  have hZ := rgx_size (s := s) ha hb hs
  have hY2 : cmdL ((⟨#[32, 58]⟩ : ByteArray) ++ bA (digs a) ++ ⟨#[32, 44, 32]⟩ ++ bA (digs b) ++ ⟨#[32]⟩ ++ s).data.toList = (n, c2) := by rw [rgx_list]; exact hY
  have D1 : Hid (∀ z, Calls Tryz.prog 13 #[.int .i64 (a : Int)] z _) := fun z => digits_any a (by omega) z
  have D2 : Hid (∀ z, Calls Tryz.prog 13 #[.int .i64 (b : Int)] z _) := fun z => digits_any b (by omega) z
  have y1 : (bA (digs a)).size ≤ 6 := by show (digs a).toArray.size ≤ 6; simpa using digs_len 5 (n := a) (by omega)
  have y2 : (bA (digs b)).size ≤ 6 := by show (digs b).toArray.size ≤ 6; simpa using digs_len 5 (n := b) (by omega)
  obtain ⟨A, hA⟩ : ∃ A, bA (digs a) = A := ⟨_, rfl⟩
  obtain ⟨B, hB⟩ : ∃ B, bA (digs b) = B := ⟨_, rfl⟩
  rw [hA] at D1 y1 hZ hY2; rw [hB] at D2 y2 hZ hY2
  have H3 : Hid (∀ z, Gs z → Calls Tryz.prog 12 #[.string ((⟨#[32, 58]⟩ : ByteArray) ++ A ++ ⟨#[32, 44, 32]⟩ ++ B ++ ⟨#[32]⟩ ++ s)] z _) := fun z hz => parse_at _ (by omega) hY2 hz
  have g1 : decide ((s.size : Int) > 300) = false := decide_eq_false (by omega)
  have g2 : decide ((300 : Int) < (s.size : Int)) = false := decide_eq_false (by omega)
  have g3 : decide (300 < s.size) = false := decide_eq_false (by omega)
  have g4 : ((s.size : Int) == 0) = false := by rw [beq_eq_false_iff_ne]; omega
  have f1 := hv
  have n1 : ((n : Int) == 0) = false := by rw [beq_eq_false_iff_ne]; omega
  have n2 : (n == 0) = false := by rw [beq_eq_false_iff_ne]; exact hn
  have n3 : ((n : Int) != 0) = true := by rw [bne_iff_ne]; omega
  clear hw hX hY hY2 hZ hA hB
  go_enter Tryz.func8, Tryz.ntmps8
  go_wp2_with fail
  refine Calls.mono H1.out ?_
  rintro e w1 ⟨rfl, k1⟩
  have HK : Hid (Kp w w1) := k1
  clear k1 H1
  go_wp2_with fail
  refine Calls.mono (H2.out _ (Hg.out _ HK.out)) ?_
  rintro e w3 ⟨ra, rc, da, dc, rfl, HA⟩
  clear H2
  obtain ⟨q1, hq1⟩ : ∃ q, w3.heap.size = q := ⟨_, rfl⟩
  obtain ⟨U1, hU1⟩ : ∃ z, w3.alloc (.cells #[.slice none 0 0, .string ⟨#[]⟩, .bool false, .int .u8 0, .int .i64 0, .slice none 0 0, .string ⟨#[]⟩, .string ⟨#[]⟩, .string ⟨#[]⟩, .string ⟨#[]⟩] 27) = z := ⟨_, rfl⟩
  have HB : Hid (Lc 27 q1 zmC U1 ∧ Kp w3 U1 ∧ w3.heap.size ≤ q1) := by
    rw [← hU1, ← hq1]; exact ⟨box_new w3, kp_alloc _ _, Nat.le_refl _⟩
  go_upto_region 7 with (refine wpList_store_box HB.out.1 0 (cmC c (.slice ra c.rg.length rc) (.slice da c.dest.length dc)) rfl 27 (.tmp 8) (.tmp 61) rfl rfl rfl (Nat.le_refl 10) sizeCmd (cmC_one _ _ _ _ _ _ _) rfl ?_; intro w4 x1 x2 x3; have HC : Hid (Lc 27 q1 (cmC c (.slice ra c.rg.length rc) (.slice da c.dest.length dc)) w4 ∧ Kp w3 w4 ∧ Kp w w4) := ⟨x1, kp_on HB.out.2.1 x2 HB.out.2.2, kp_trans (kp_trans HK.out HA.out.2.2) (kp_on HB.out.2.1 x2 HB.out.2.2)⟩; clear x1 x2 x3)
  have HD : Hid (w4.ownsRow w1.heap.size 43 6 (.slice ra c.rg.length rc) c.rg.length (adCs c.rg) ∧ w4.ownsRow w1.heap.size 43 6 (.slice da c.dest.length dc) c.dest.length (adCs c.dest)) := ⟨row_kp HA.out.1 HC.out.2.1, row_kp HA.out.2.1 HC.out.2.1⟩
  clear HA HB hq1 hU1 HK
  go_wp2_with fail
  refine Calls.mono (D1.out _) ?_
  rintro e v1 ⟨rfl, k1⟩
  have HE : Hid (Kp w4 v1) := k1
  clear k1 D1
  go_wp2_with fail
  refine Calls.mono (D2.out _) ?_
  rintro e v2 ⟨rfl, k1⟩
  have HF : Hid (Kp w4 v2) := kp_trans HE.out k1
  clear k1 D2 HE
  go_wp2_with fail
  refine Calls.mono (H3.out _ (Hg.out _ (kp_trans HC.out.2.2 HF.out))) ?_
  rintro e w5 ⟨rb, rd, db, dd, rfl, HA⟩
  clear H3
  obtain ⟨q2, hq2⟩ : ∃ q, w5.heap.size = q := ⟨_, rfl⟩
  obtain ⟨U2, hU2⟩ : ∃ z, w5.alloc (.cells #[.slice none 0 0, .string ⟨#[]⟩, .bool false, .int .u8 0, .int .i64 0, .slice none 0 0, .string ⟨#[]⟩, .string ⟨#[]⟩, .string ⟨#[]⟩, .string ⟨#[]⟩] 27) = z := ⟨_, rfl⟩
  have HB : Hid (Lc 27 q2 zmC U2 ∧ Kp w5 U2 ∧ w5.heap.size ≤ q2) := by
    rw [← hU2, ← hq2]; exact ⟨box_new w5, kp_alloc _ _, Nat.le_refl _⟩
  go_upto_region 8 with (refine wpList_store_box HB.out.1 0 (cmC c2 (.slice rb c2.rg.length rd) (.slice db c2.dest.length dd)) rfl 27 (.tmp 10) (.tmp 77) rfl rfl rfl (Nat.le_refl 10) sizeCmd (cmC_one _ _ _ _ _ _ _) rfl ?_; intro w7 x1 x2 x3; have HE0 : Hid (Kp w5 w7) := kp_on HB.out.2.1 x2 HB.out.2.2; clear x1 x2 x3)
  have HX : Hid (Kp w w7) := kp_trans HC.out.2.2 (kp_trans (kp_trans HF.out HA.out.2.2) HE0.out)
  clear HA HB hq2 hU2 HC HD HF HE0 Hg
  go_wp2_with fail
  go_ret
  exact ⟨rfl, HX.out⟩
set_option maxHeartbeats 8000000 in
theorem rg_126no (s : ByteArray) {a b n : Nat} {c c2 : CmP} (ha : a < 65536) (hb : b < 65536) (hs : s.size ≤ 300) (h0 : 0 < s.size) (hX : cmdL s.data.toList = (n, c)) (hY : cmdL (rngL a b s.data.toList) = (n, c2)) (hv : (s[0]'h0).toNat = 126) (hn : n ≠ 0)  (hw : Gs w) : Calls Tryz.prog 8 #[.string s, .int .u16 (a : Int), .int .u16 (b : Int)] w fun e w' => e = .returned (.bool true) ∧ Kp w w' := by
  have H1 : Hid (Calls Tryz.prog 11 #[] w fun e w' => e = .returned (.bool true) ∧ Kp w w') := known_any hw
  have Hg : Hid (∀ z, Kp w z → Gs z) := fun z k => hw.kp k
  have H2 : Hid (∀ z, Gs z → Calls Tryz.prog 12 #[.string s] z _) := fun z hz => parse_at s (by omega) hX hz
  have hZ := rgx_size (s := s) ha hb hs
  have hY2 : cmdL ((⟨#[32, 58]⟩ : ByteArray) ++ bA (digs a) ++ ⟨#[32, 44, 32]⟩ ++ bA (digs b) ++ ⟨#[32]⟩ ++ s).data.toList = (n, c2) := by rw [rgx_list]; exact hY
  have D1 : Hid (∀ z, Calls Tryz.prog 13 #[.int .i64 (a : Int)] z _) := fun z => digits_any a (by omega) z
  have D2 : Hid (∀ z, Calls Tryz.prog 13 #[.int .i64 (b : Int)] z _) := fun z => digits_any b (by omega) z
  have y1 : (bA (digs a)).size ≤ 6 := by show (digs a).toArray.size ≤ 6; simpa using digs_len 5 (n := a) (by omega)
  have y2 : (bA (digs b)).size ≤ 6 := by show (digs b).toArray.size ≤ 6; simpa using digs_len 5 (n := b) (by omega)
  obtain ⟨A, hA⟩ : ∃ A, bA (digs a) = A := ⟨_, rfl⟩
  obtain ⟨B, hB⟩ : ∃ B, bA (digs b) = B := ⟨_, rfl⟩
  rw [hA] at D1 y1 hZ hY2; rw [hB] at D2 y2 hZ hY2
  have H3 : Hid (∀ z, Gs z → Calls Tryz.prog 12 #[.string ((⟨#[32, 58]⟩ : ByteArray) ++ A ++ ⟨#[32, 44, 32]⟩ ++ B ++ ⟨#[32]⟩ ++ s)] z _) := fun z hz => parse_at _ (by omega) hY2 hz
  have g1 : decide ((s.size : Int) > 300) = false := decide_eq_false (by omega)
  have g2 : decide ((300 : Int) < (s.size : Int)) = false := decide_eq_false (by omega)
  have g3 : decide (300 < s.size) = false := decide_eq_false (by omega)
  have g4 : ((s.size : Int) == 0) = false := by rw [beq_eq_false_iff_ne]; omega
  have f1 := hv
  have n1 : ((n : Int) == 0) = false := by rw [beq_eq_false_iff_ne]; omega
  have n2 : (n == 0) = false := by rw [beq_eq_false_iff_ne]; exact hn
  have n3 : ((n : Int) != 0) = true := by rw [bne_iff_ne]; omega
  clear hw hX hY hY2 hZ hA hB
  go_enter Tryz.func8, Tryz.ntmps8
  go_wp2_with fail
  refine Calls.mono H1.out ?_
  rintro e w1 ⟨rfl, k1⟩
  have HK : Hid (Kp w w1) := k1
  clear k1 H1
  go_wp2_with fail
  refine Calls.mono (H2.out _ (Hg.out _ HK.out)) ?_
  rintro e w3 ⟨ra, rc, da, dc, rfl, HA⟩
  clear H2
  obtain ⟨q1, hq1⟩ : ∃ q, w3.heap.size = q := ⟨_, rfl⟩
  obtain ⟨U1, hU1⟩ : ∃ z, w3.alloc (.cells #[.slice none 0 0, .string ⟨#[]⟩, .bool false, .int .u8 0, .int .i64 0, .slice none 0 0, .string ⟨#[]⟩, .string ⟨#[]⟩, .string ⟨#[]⟩, .string ⟨#[]⟩] 27) = z := ⟨_, rfl⟩
  have HB : Hid (Lc 27 q1 zmC U1 ∧ Kp w3 U1 ∧ w3.heap.size ≤ q1) := by
    rw [← hU1, ← hq1]; exact ⟨box_new w3, kp_alloc _ _, Nat.le_refl _⟩
  go_upto_region 7 with (refine wpList_store_box HB.out.1 0 (cmC c (.slice ra c.rg.length rc) (.slice da c.dest.length dc)) rfl 27 (.tmp 8) (.tmp 61) rfl rfl rfl (Nat.le_refl 10) sizeCmd (cmC_one _ _ _ _ _ _ _) rfl ?_; intro w4 x1 x2 x3; have HC : Hid (Lc 27 q1 (cmC c (.slice ra c.rg.length rc) (.slice da c.dest.length dc)) w4 ∧ Kp w3 w4 ∧ Kp w w4) := ⟨x1, kp_on HB.out.2.1 x2 HB.out.2.2, kp_trans (kp_trans HK.out HA.out.2.2) (kp_on HB.out.2.1 x2 HB.out.2.2)⟩; clear x1 x2 x3)
  have HD : Hid (w4.ownsRow w1.heap.size 43 6 (.slice ra c.rg.length rc) c.rg.length (adCs c.rg) ∧ w4.ownsRow w1.heap.size 43 6 (.slice da c.dest.length dc) c.dest.length (adCs c.dest)) := ⟨row_kp HA.out.1 HC.out.2.1, row_kp HA.out.2.1 HC.out.2.1⟩
  clear HA HB hq1 hU1 HK
  go_wp2_with fail
  refine Calls.mono (D1.out _) ?_
  rintro e v1 ⟨rfl, k1⟩
  have HE : Hid (Kp w4 v1) := k1
  clear k1 D1
  go_wp2_with fail
  refine Calls.mono (D2.out _) ?_
  rintro e v2 ⟨rfl, k1⟩
  have HF : Hid (Kp w4 v2) := kp_trans HE.out k1
  clear k1 D2 HE
  go_wp2_with fail
  refine Calls.mono (H3.out _ (Hg.out _ (kp_trans HC.out.2.2 HF.out))) ?_
  rintro e w5 ⟨rb, rd, db, dd, rfl, HA⟩
  clear H3
  obtain ⟨q2, hq2⟩ : ∃ q, w5.heap.size = q := ⟨_, rfl⟩
  obtain ⟨U2, hU2⟩ : ∃ z, w5.alloc (.cells #[.slice none 0 0, .string ⟨#[]⟩, .bool false, .int .u8 0, .int .i64 0, .slice none 0 0, .string ⟨#[]⟩, .string ⟨#[]⟩, .string ⟨#[]⟩, .string ⟨#[]⟩] 27) = z := ⟨_, rfl⟩
  have HB : Hid (Lc 27 q2 zmC U2 ∧ Kp w5 U2 ∧ w5.heap.size ≤ q2) := by
    rw [← hU2, ← hq2]; exact ⟨box_new w5, kp_alloc _ _, Nat.le_refl _⟩
  go_upto_region 8 with (refine wpList_store_box HB.out.1 0 (cmC c2 (.slice rb c2.rg.length rd) (.slice db c2.dest.length dd)) rfl 27 (.tmp 10) (.tmp 77) rfl rfl rfl (Nat.le_refl 10) sizeCmd (cmC_one _ _ _ _ _ _ _) rfl ?_; intro w7 x1 x2 x3; have HE0 : Hid (Kp w5 w7) := kp_on HB.out.2.1 x2 HB.out.2.2; clear x1 x2 x3)
  have HX : Hid (Kp w w7) := kp_trans HC.out.2.2 (kp_trans (kp_trans HF.out HA.out.2.2) HE0.out)
  clear HA HB hq2 hU2 HC HD HF HE0 Hg
  go_wp2_with fail
  go_ret
  exact ⟨rfl, HX.out⟩
set_option maxHeartbeats 8000000 in
theorem rg_64no (s : ByteArray) {a b n : Nat} {c c2 : CmP} (ha : a < 65536) (hb : b < 65536) (hs : s.size ≤ 300) (h0 : 0 < s.size) (hX : cmdL s.data.toList = (n, c)) (hY : cmdL (rngL a b s.data.toList) = (n, c2)) (hv : (s[0]'h0).toNat = 64) (hn : n ≠ 0)  (hw : Gs w) : Calls Tryz.prog 8 #[.string s, .int .u16 (a : Int), .int .u16 (b : Int)] w fun e w' => e = .returned (.bool true) ∧ Kp w w' := by
  have H1 : Hid (Calls Tryz.prog 11 #[] w fun e w' => e = .returned (.bool true) ∧ Kp w w') := known_any hw
  have Hg : Hid (∀ z, Kp w z → Gs z) := fun z k => hw.kp k
  have H2 : Hid (∀ z, Gs z → Calls Tryz.prog 12 #[.string s] z _) := fun z hz => parse_at s (by omega) hX hz
  have hZ := rgx_size (s := s) ha hb hs
  have hY2 : cmdL ((⟨#[32, 58]⟩ : ByteArray) ++ bA (digs a) ++ ⟨#[32, 44, 32]⟩ ++ bA (digs b) ++ ⟨#[32]⟩ ++ s).data.toList = (n, c2) := by rw [rgx_list]; exact hY
  have D1 : Hid (∀ z, Calls Tryz.prog 13 #[.int .i64 (a : Int)] z _) := fun z => digits_any a (by omega) z
  have D2 : Hid (∀ z, Calls Tryz.prog 13 #[.int .i64 (b : Int)] z _) := fun z => digits_any b (by omega) z
  have y1 : (bA (digs a)).size ≤ 6 := by show (digs a).toArray.size ≤ 6; simpa using digs_len 5 (n := a) (by omega)
  have y2 : (bA (digs b)).size ≤ 6 := by show (digs b).toArray.size ≤ 6; simpa using digs_len 5 (n := b) (by omega)
  obtain ⟨A, hA⟩ : ∃ A, bA (digs a) = A := ⟨_, rfl⟩
  obtain ⟨B, hB⟩ : ∃ B, bA (digs b) = B := ⟨_, rfl⟩
  rw [hA] at D1 y1 hZ hY2; rw [hB] at D2 y2 hZ hY2
  have H3 : Hid (∀ z, Gs z → Calls Tryz.prog 12 #[.string ((⟨#[32, 58]⟩ : ByteArray) ++ A ++ ⟨#[32, 44, 32]⟩ ++ B ++ ⟨#[32]⟩ ++ s)] z _) := fun z hz => parse_at _ (by omega) hY2 hz
  have g1 : decide ((s.size : Int) > 300) = false := decide_eq_false (by omega)
  have g2 : decide ((300 : Int) < (s.size : Int)) = false := decide_eq_false (by omega)
  have g3 : decide (300 < s.size) = false := decide_eq_false (by omega)
  have g4 : ((s.size : Int) == 0) = false := by rw [beq_eq_false_iff_ne]; omega
  have f1 := hv
  have n1 : ((n : Int) == 0) = false := by rw [beq_eq_false_iff_ne]; omega
  have n2 : (n == 0) = false := by rw [beq_eq_false_iff_ne]; exact hn
  have n3 : ((n : Int) != 0) = true := by rw [bne_iff_ne]; omega
  clear hw hX hY hY2 hZ hA hB
  go_enter Tryz.func8, Tryz.ntmps8
  go_wp2_with fail
  refine Calls.mono H1.out ?_
  rintro e w1 ⟨rfl, k1⟩
  have HK : Hid (Kp w w1) := k1
  clear k1 H1
  go_wp2_with fail
  refine Calls.mono (H2.out _ (Hg.out _ HK.out)) ?_
  rintro e w3 ⟨ra, rc, da, dc, rfl, HA⟩
  clear H2
  obtain ⟨q1, hq1⟩ : ∃ q, w3.heap.size = q := ⟨_, rfl⟩
  obtain ⟨U1, hU1⟩ : ∃ z, w3.alloc (.cells #[.slice none 0 0, .string ⟨#[]⟩, .bool false, .int .u8 0, .int .i64 0, .slice none 0 0, .string ⟨#[]⟩, .string ⟨#[]⟩, .string ⟨#[]⟩, .string ⟨#[]⟩] 27) = z := ⟨_, rfl⟩
  have HB : Hid (Lc 27 q1 zmC U1 ∧ Kp w3 U1 ∧ w3.heap.size ≤ q1) := by
    rw [← hU1, ← hq1]; exact ⟨box_new w3, kp_alloc _ _, Nat.le_refl _⟩
  go_upto_region 7 with (refine wpList_store_box HB.out.1 0 (cmC c (.slice ra c.rg.length rc) (.slice da c.dest.length dc)) rfl 27 (.tmp 8) (.tmp 61) rfl rfl rfl (Nat.le_refl 10) sizeCmd (cmC_one _ _ _ _ _ _ _) rfl ?_; intro w4 x1 x2 x3; have HC : Hid (Lc 27 q1 (cmC c (.slice ra c.rg.length rc) (.slice da c.dest.length dc)) w4 ∧ Kp w3 w4 ∧ Kp w w4) := ⟨x1, kp_on HB.out.2.1 x2 HB.out.2.2, kp_trans (kp_trans HK.out HA.out.2.2) (kp_on HB.out.2.1 x2 HB.out.2.2)⟩; clear x1 x2 x3)
  have HD : Hid (w4.ownsRow w1.heap.size 43 6 (.slice ra c.rg.length rc) c.rg.length (adCs c.rg) ∧ w4.ownsRow w1.heap.size 43 6 (.slice da c.dest.length dc) c.dest.length (adCs c.dest)) := ⟨row_kp HA.out.1 HC.out.2.1, row_kp HA.out.2.1 HC.out.2.1⟩
  clear HA HB hq1 hU1 HK
  go_wp2_with fail
  refine Calls.mono (D1.out _) ?_
  rintro e v1 ⟨rfl, k1⟩
  have HE : Hid (Kp w4 v1) := k1
  clear k1 D1
  go_wp2_with fail
  refine Calls.mono (D2.out _) ?_
  rintro e v2 ⟨rfl, k1⟩
  have HF : Hid (Kp w4 v2) := kp_trans HE.out k1
  clear k1 D2 HE
  go_wp2_with fail
  refine Calls.mono (H3.out _ (Hg.out _ (kp_trans HC.out.2.2 HF.out))) ?_
  rintro e w5 ⟨rb, rd, db, dd, rfl, HA⟩
  clear H3
  obtain ⟨q2, hq2⟩ : ∃ q, w5.heap.size = q := ⟨_, rfl⟩
  obtain ⟨U2, hU2⟩ : ∃ z, w5.alloc (.cells #[.slice none 0 0, .string ⟨#[]⟩, .bool false, .int .u8 0, .int .i64 0, .slice none 0 0, .string ⟨#[]⟩, .string ⟨#[]⟩, .string ⟨#[]⟩, .string ⟨#[]⟩] 27) = z := ⟨_, rfl⟩
  have HB : Hid (Lc 27 q2 zmC U2 ∧ Kp w5 U2 ∧ w5.heap.size ≤ q2) := by
    rw [← hU2, ← hq2]; exact ⟨box_new w5, kp_alloc _ _, Nat.le_refl _⟩
  go_upto_region 8 with (refine wpList_store_box HB.out.1 0 (cmC c2 (.slice rb c2.rg.length rd) (.slice db c2.dest.length dd)) rfl 27 (.tmp 10) (.tmp 77) rfl rfl rfl (Nat.le_refl 10) sizeCmd (cmC_one _ _ _ _ _ _ _) rfl ?_; intro w7 x1 x2 x3; have HE0 : Hid (Kp w5 w7) := kp_on HB.out.2.1 x2 HB.out.2.2; clear x1 x2 x3)
  have HX : Hid (Kp w w7) := kp_trans HC.out.2.2 (kp_trans (kp_trans HF.out HA.out.2.2) HE0.out)
  clear HA HB hq2 hU2 HC HD HF HE0 Hg
  go_wp2_with fail
  go_ret
  exact ⟨rfl, HX.out⟩
set_option maxHeartbeats 8000000 in
theorem rg_61no (s : ByteArray) {a b n : Nat} {c c2 : CmP} (ha : a < 65536) (hb : b < 65536) (hs : s.size ≤ 300) (h0 : 0 < s.size) (hX : cmdL s.data.toList = (n, c)) (hY : cmdL (rngL a b s.data.toList) = (n, c2)) (hv : (s[0]'h0).toNat = 61) (hn : n ≠ 0)  (hw : Gs w) : Calls Tryz.prog 8 #[.string s, .int .u16 (a : Int), .int .u16 (b : Int)] w fun e w' => e = .returned (.bool true) ∧ Kp w w' := by
  have H1 : Hid (Calls Tryz.prog 11 #[] w fun e w' => e = .returned (.bool true) ∧ Kp w w') := known_any hw
  have Hg : Hid (∀ z, Kp w z → Gs z) := fun z k => hw.kp k
  have H2 : Hid (∀ z, Gs z → Calls Tryz.prog 12 #[.string s] z _) := fun z hz => parse_at s (by omega) hX hz
  have hZ := rgx_size (s := s) ha hb hs
  have hY2 : cmdL ((⟨#[32, 58]⟩ : ByteArray) ++ bA (digs a) ++ ⟨#[32, 44, 32]⟩ ++ bA (digs b) ++ ⟨#[32]⟩ ++ s).data.toList = (n, c2) := by rw [rgx_list]; exact hY
  have D1 : Hid (∀ z, Calls Tryz.prog 13 #[.int .i64 (a : Int)] z _) := fun z => digits_any a (by omega) z
  have D2 : Hid (∀ z, Calls Tryz.prog 13 #[.int .i64 (b : Int)] z _) := fun z => digits_any b (by omega) z
  have y1 : (bA (digs a)).size ≤ 6 := by show (digs a).toArray.size ≤ 6; simpa using digs_len 5 (n := a) (by omega)
  have y2 : (bA (digs b)).size ≤ 6 := by show (digs b).toArray.size ≤ 6; simpa using digs_len 5 (n := b) (by omega)
  obtain ⟨A, hA⟩ : ∃ A, bA (digs a) = A := ⟨_, rfl⟩
  obtain ⟨B, hB⟩ : ∃ B, bA (digs b) = B := ⟨_, rfl⟩
  rw [hA] at D1 y1 hZ hY2; rw [hB] at D2 y2 hZ hY2
  have H3 : Hid (∀ z, Gs z → Calls Tryz.prog 12 #[.string ((⟨#[32, 58]⟩ : ByteArray) ++ A ++ ⟨#[32, 44, 32]⟩ ++ B ++ ⟨#[32]⟩ ++ s)] z _) := fun z hz => parse_at _ (by omega) hY2 hz
  have g1 : decide ((s.size : Int) > 300) = false := decide_eq_false (by omega)
  have g2 : decide ((300 : Int) < (s.size : Int)) = false := decide_eq_false (by omega)
  have g3 : decide (300 < s.size) = false := decide_eq_false (by omega)
  have g4 : ((s.size : Int) == 0) = false := by rw [beq_eq_false_iff_ne]; omega
  have f1 := hv
  have n1 : ((n : Int) == 0) = false := by rw [beq_eq_false_iff_ne]; omega
  have n2 : (n == 0) = false := by rw [beq_eq_false_iff_ne]; exact hn
  have n3 : ((n : Int) != 0) = true := by rw [bne_iff_ne]; omega
  clear hw hX hY hY2 hZ hA hB
  go_enter Tryz.func8, Tryz.ntmps8
  go_wp2_with fail
  refine Calls.mono H1.out ?_
  rintro e w1 ⟨rfl, k1⟩
  have HK : Hid (Kp w w1) := k1
  clear k1 H1
  go_wp2_with fail
  refine Calls.mono (H2.out _ (Hg.out _ HK.out)) ?_
  rintro e w3 ⟨ra, rc, da, dc, rfl, HA⟩
  clear H2
  obtain ⟨q1, hq1⟩ : ∃ q, w3.heap.size = q := ⟨_, rfl⟩
  obtain ⟨U1, hU1⟩ : ∃ z, w3.alloc (.cells #[.slice none 0 0, .string ⟨#[]⟩, .bool false, .int .u8 0, .int .i64 0, .slice none 0 0, .string ⟨#[]⟩, .string ⟨#[]⟩, .string ⟨#[]⟩, .string ⟨#[]⟩] 27) = z := ⟨_, rfl⟩
  have HB : Hid (Lc 27 q1 zmC U1 ∧ Kp w3 U1 ∧ w3.heap.size ≤ q1) := by
    rw [← hU1, ← hq1]; exact ⟨box_new w3, kp_alloc _ _, Nat.le_refl _⟩
  go_upto_region 7 with (refine wpList_store_box HB.out.1 0 (cmC c (.slice ra c.rg.length rc) (.slice da c.dest.length dc)) rfl 27 (.tmp 8) (.tmp 61) rfl rfl rfl (Nat.le_refl 10) sizeCmd (cmC_one _ _ _ _ _ _ _) rfl ?_; intro w4 x1 x2 x3; have HC : Hid (Lc 27 q1 (cmC c (.slice ra c.rg.length rc) (.slice da c.dest.length dc)) w4 ∧ Kp w3 w4 ∧ Kp w w4) := ⟨x1, kp_on HB.out.2.1 x2 HB.out.2.2, kp_trans (kp_trans HK.out HA.out.2.2) (kp_on HB.out.2.1 x2 HB.out.2.2)⟩; clear x1 x2 x3)
  have HD : Hid (w4.ownsRow w1.heap.size 43 6 (.slice ra c.rg.length rc) c.rg.length (adCs c.rg) ∧ w4.ownsRow w1.heap.size 43 6 (.slice da c.dest.length dc) c.dest.length (adCs c.dest)) := ⟨row_kp HA.out.1 HC.out.2.1, row_kp HA.out.2.1 HC.out.2.1⟩
  clear HA HB hq1 hU1 HK
  go_wp2_with fail
  refine Calls.mono (D1.out _) ?_
  rintro e v1 ⟨rfl, k1⟩
  have HE : Hid (Kp w4 v1) := k1
  clear k1 D1
  go_wp2_with fail
  refine Calls.mono (D2.out _) ?_
  rintro e v2 ⟨rfl, k1⟩
  have HF : Hid (Kp w4 v2) := kp_trans HE.out k1
  clear k1 D2 HE
  go_wp2_with fail
  refine Calls.mono (H3.out _ (Hg.out _ (kp_trans HC.out.2.2 HF.out))) ?_
  rintro e w5 ⟨rb, rd, db, dd, rfl, HA⟩
  clear H3
  obtain ⟨q2, hq2⟩ : ∃ q, w5.heap.size = q := ⟨_, rfl⟩
  obtain ⟨U2, hU2⟩ : ∃ z, w5.alloc (.cells #[.slice none 0 0, .string ⟨#[]⟩, .bool false, .int .u8 0, .int .i64 0, .slice none 0 0, .string ⟨#[]⟩, .string ⟨#[]⟩, .string ⟨#[]⟩, .string ⟨#[]⟩] 27) = z := ⟨_, rfl⟩
  have HB : Hid (Lc 27 q2 zmC U2 ∧ Kp w5 U2 ∧ w5.heap.size ≤ q2) := by
    rw [← hU2, ← hq2]; exact ⟨box_new w5, kp_alloc _ _, Nat.le_refl _⟩
  go_upto_region 8 with (refine wpList_store_box HB.out.1 0 (cmC c2 (.slice rb c2.rg.length rd) (.slice db c2.dest.length dd)) rfl 27 (.tmp 10) (.tmp 77) rfl rfl rfl (Nat.le_refl 10) sizeCmd (cmC_one _ _ _ _ _ _ _) rfl ?_; intro w7 x1 x2 x3; have HE0 : Hid (Kp w5 w7) := kp_on HB.out.2.1 x2 HB.out.2.2; clear x1 x2 x3)
  have HX : Hid (Kp w w7) := kp_trans HC.out.2.2 (kp_trans (kp_trans HF.out HA.out.2.2) HE0.out)
  clear HA HB hq2 hU2 HC HD HF HE0 Hg
  go_wp2_with fail
  go_ret
  exact ⟨rfl, HX.out⟩
end
end Go.Proofs.YtfgapmfjfienhaaGreatDoor
/- CmdRange: the walk, what the law does not take. -/
namespace Go.Proofs.YtfgapmfjfienhaaGreatDoor
open Go.ChangeShapes Go.WideShapes Go.ChangeAt Go.RowKit Go.Maps Go.MapKept
set_option linter.unusedVariables false
set_option linter.unusedSimpArgs false
set_option maxRecDepth 100000
section
variable {w : World}
set_option maxHeartbeats 8000000 in
theorem rg_big (s : ByteArray) {a b : Nat} (hs : 300 < s.size) (hw : Gs w) : Calls Tryz.prog 8 #[.string s, .int .u16 (a : Int), .int .u16 (b : Int)] w fun e w' => e = .returned (.bool true) ∧ Kp w w' := by
  have H1 : Hid (Calls Tryz.prog 11 #[] w fun e w' => e = .returned (.bool true) ∧ Kp w w') := known_any hw
  have g1 : decide ((s.size : Int) > 300) = true := decide_eq_true (by omega)
  have g2 : decide ((300 : Int) < (s.size : Int)) = true := decide_eq_true (by omega)
  have g3 : decide (300 < s.size) = true := decide_eq_true hs
  clear hs
  clear hw
  go_enter Tryz.func8, Tryz.ntmps8
  go_wp2_with fail
  refine Calls.mono H1.out ?_
  rintro e w1 ⟨rfl, k1⟩
  have HK : Hid (Kp w w1) := k1
  clear k1 H1
  go_wp2_with fail
  go_ret
  exact ⟨rfl, HK.out⟩
set_option maxHeartbeats 8000000 in
theorem rg_nil {a b : Nat} (hw : Gs w) : Calls Tryz.prog 8 #[.string ⟨#[]⟩, .int .u16 (a : Int), .int .u16 (b : Int)] w fun e w' => e = .returned (.bool true) ∧ Kp w w' := by
  have H1 : Hid (Calls Tryz.prog 11 #[] w fun e w' => e = .returned (.bool true) ∧ Kp w w') := known_any hw
  clear hw
  go_enter Tryz.func8, Tryz.ntmps8
  go_wp2_with fail
  refine Calls.mono H1.out ?_
  rintro e w1 ⟨rfl, k1⟩
  have HK : Hid (Kp w w1) := k1
  clear k1 H1
  go_wp2_with fail
  go_ret
  exact ⟨rfl, HK.out⟩
set_option maxHeartbeats 8000000 in
theorem rg_lo (s : ByteArray) {a b : Nat} (hs : s.size ≤ 300) (h0 : 0 < s.size) (hc : (s[0]'h0).toNat < 97) (n1 : (s[0]'h0).toNat ≠ 62 ∧ (s[0]'h0).toNat ≠ 60 ∧ (s[0]'h0).toNat ≠ 38 ∧ (s[0]'h0).toNat ≠ 64 ∧ (s[0]'h0).toNat ≠ 61) (hw : Gs w) : Calls Tryz.prog 8 #[.string s, .int .u16 (a : Int), .int .u16 (b : Int)] w fun e w' => e = .returned (.bool true) ∧ Kp w w' := by
  have H1 : Hid (Calls Tryz.prog 11 #[] w fun e w' => e = .returned (.bool true) ∧ Kp w w') := known_any hw
  have g1 : decide ((s.size : Int) > 300) = false := decide_eq_false (by omega)
  have g2 : decide ((300 : Int) < (s.size : Int)) = false := decide_eq_false (by omega)
  have g3 : decide (300 < s.size) = false := decide_eq_false (by omega)
  have g4 : ((s.size : Int) == 0) = false := by rw [beq_eq_false_iff_ne]; omega
  have e62 : (((s[0]'h0).toNat : Int) == 62) = false := by rw [beq_eq_false_iff_ne]; omega
  have e60 : (((s[0]'h0).toNat : Int) == 60) = false := by rw [beq_eq_false_iff_ne]; omega
  have e38 : (((s[0]'h0).toNat : Int) == 38) = false := by rw [beq_eq_false_iff_ne]; omega
  have e126 : (((s[0]'h0).toNat : Int) == 126) = false := by rw [beq_eq_false_iff_ne]; omega
  have e64 : (((s[0]'h0).toNat : Int) == 64) = false := by rw [beq_eq_false_iff_ne]; omega
  have e61 : (((s[0]'h0).toNat : Int) == 61) = false := by rw [beq_eq_false_iff_ne]; omega
  have f1 : decide ((97 : Int) ≤ ((s[0]'h0).toNat : Int)) = false := decide_eq_false (by omega)
  have f2 : decide (((s[0]'h0).toNat : Int) ≥ 97) = false := decide_eq_false (by omega)
  have f4 : (97 ≤ (s[0]'h0).toNat) = False := by rw [eq_iff_iff]; exact ⟨fun q => by omega, False.elim⟩
  clear n1
  clear hw
  go_enter Tryz.func8, Tryz.ntmps8
  go_wp2_with fail
  refine Calls.mono H1.out ?_
  rintro e w1 ⟨rfl, k1⟩
  have HK : Hid (Kp w w1) := k1
  clear k1 H1
  go_wp2_with fail
  go_ret
  exact ⟨rfl, HK.out⟩
set_option maxHeartbeats 8000000 in
theorem rg_hi (s : ByteArray) {a b : Nat} (hs : s.size ≤ 300) (h0 : 0 < s.size) (hc : 122 < (s[0]'h0).toNat) (n1 : (s[0]'h0).toNat ≠ 126) (hw : Gs w) : Calls Tryz.prog 8 #[.string s, .int .u16 (a : Int), .int .u16 (b : Int)] w fun e w' => e = .returned (.bool true) ∧ Kp w w' := by
  have H1 : Hid (Calls Tryz.prog 11 #[] w fun e w' => e = .returned (.bool true) ∧ Kp w w') := known_any hw
  have g1 : decide ((s.size : Int) > 300) = false := decide_eq_false (by omega)
  have g2 : decide ((300 : Int) < (s.size : Int)) = false := decide_eq_false (by omega)
  have g3 : decide (300 < s.size) = false := decide_eq_false (by omega)
  have g4 : ((s.size : Int) == 0) = false := by rw [beq_eq_false_iff_ne]; omega
  have e62 : (((s[0]'h0).toNat : Int) == 62) = false := by rw [beq_eq_false_iff_ne]; omega
  have e60 : (((s[0]'h0).toNat : Int) == 60) = false := by rw [beq_eq_false_iff_ne]; omega
  have e38 : (((s[0]'h0).toNat : Int) == 38) = false := by rw [beq_eq_false_iff_ne]; omega
  have e126 : (((s[0]'h0).toNat : Int) == 126) = false := by rw [beq_eq_false_iff_ne]; omega
  have e64 : (((s[0]'h0).toNat : Int) == 64) = false := by rw [beq_eq_false_iff_ne]; omega
  have e61 : (((s[0]'h0).toNat : Int) == 61) = false := by rw [beq_eq_false_iff_ne]; omega
  have f1 : decide ((97 : Int) ≤ ((s[0]'h0).toNat : Int)) = true := decide_eq_true (by omega)
  have f2 : decide (((s[0]'h0).toNat : Int) ≤ 122) = false := decide_eq_false (by omega)
  have f4 : decide ((s[0]'h0).toNat ≤ 122) = false := decide_eq_false (by omega)
  clear n1
  clear hw
  go_enter Tryz.func8, Tryz.ntmps8
  go_wp2_with fail
  refine Calls.mono H1.out ?_
  rintro e w1 ⟨rfl, k1⟩
  have HK : Hid (Kp w w1) := k1
  clear k1 H1
  go_wp2_with fail
  go_ret
  exact ⟨rfl, HK.out⟩
end
end Go.Proofs.YtfgapmfjfienhaaGreatDoor
/- CmdRange: the walk, all of it. -/
namespace Go.Proofs.YtfgapmfjfienhaaGreatDoor
open Go.ChangeShapes Go.WideShapes Go.ChangeAt Go.RowKit Go.Maps Go.MapKept
set_option linter.unusedVariables false
set_option linter.unusedSimpArgs false
theorem rg_sign {c : UInt8} (h : c.toNat = 62 ∨ c.toNat = 60 ∨ c.toNat = 38 ∨ c.toNat = 126 ∨ c.toNat = 64 ∨ c.toNat = 61) : rngB c = true := by
  have e : UInt8.ofNat c.toNat = c := by simp
  rw [← e]
  rcases h with h | h | h | h | h | h <;> rw [h] <;> decide +kernel
theorem range_law (s : ByteArray) (a : Nat) (ha : a < 65536) (b : Nat) (hb : b < 65536) {w : World} (hw : Gs w) : Calls Tryz.prog 8 #[.string s, .int .u16 (a : Int), .int .u16 (b : Int)] w fun e w' => e = .returned (.bool true) ∧ Kp w w' := by
  by_cases hs : 300 < s.size
  · exact rg_big s hs hw
  · have hs' : s.size ≤ 300 := by omega
    by_cases h0 : 0 < s.size
    · obtain ⟨c, r, e⟩ : ∃ c r, s.data.toList = c :: r := by
        cases h : s.data.toList with
        | nil => have q : s.size = 0 := by rw [Lib.size_eq, h]; rfl
                 omega
        | cons c r => exact ⟨c, r, rfl⟩
      have ec : s[0]'h0 = c := by
        have h1 : s.data.toList[0]? = some (s[0]'h0) := by
          rw [List.getElem?_eq_getElem (by rw [← Lib.size_eq]; exact h0)]; rfl
        rw [e] at h1; exact (Option.some.inj h1).symm
      have hl : (c :: r).length ≤ 300 := by rw [← e, ← Lib.size_eq]; exact hs'
      have key : rngB c = true → (cmdL s.data.toList = ((cmdL (c :: r)).1, (cmdL (c :: r)).2) ∧ cmdL (rngL a b s.data.toList) = ((cmdL (c :: r)).1, if (cmdL (c :: r)).1 = 0 then { (cmdL (c :: r)).2 with rg := two a b } else { cnt := 0 }) ∧ ((cmdL (c :: r)).1 = 0 → (cmdL (c :: r)).2.rg = [])) := fun hc => by
        obtain ⟨h1, h2⟩ := cmd_rng ha hb hc r hl
        rw [e]
        exact ⟨rfl, h1, h2⟩
      by_cases c1 : 97 ≤ (s[0]'h0).toNat ∧ (s[0]'h0).toNat ≤ 122
      · obtain ⟨k1, k2, k3⟩ := key (by unfold rngB; rw [← ec, decide_eq_true c1]; rfl)
        by_cases hn : (cmdL (c :: r)).1 = 0
        · rw [if_pos hn] at k2
          exact rg_letok s ha hb hs' h0 k1 k2 c1.1 c1.2 hn (k3 hn) rfl hw
        · exact rg_letno s ha hb hs' h0 k1 k2 c1.1 c1.2 hn hw
      · by_cases x62 : (s[0]'h0).toNat = 62
        · obtain ⟨k1, k2, k3⟩ := key (rg_sign (Or.inl (by rw [← ec]; exact x62)))
          by_cases hn : (cmdL (c :: r)).1 = 0
          · rw [if_pos hn] at k2
            exact rg_62ok s ha hb hs' h0 k1 k2 x62 hn (k3 hn) rfl hw
          · exact rg_62no s ha hb hs' h0 k1 k2 x62 hn hw
        · by_cases x60 : (s[0]'h0).toNat = 60
          · obtain ⟨k1, k2, k3⟩ := key (rg_sign (Or.inr (Or.inl (by rw [← ec]; exact x60))))
            by_cases hn : (cmdL (c :: r)).1 = 0
            · rw [if_pos hn] at k2
              exact rg_60ok s ha hb hs' h0 k1 k2 x60 hn (k3 hn) rfl hw
            · exact rg_60no s ha hb hs' h0 k1 k2 x60 hn hw
          · by_cases x38 : (s[0]'h0).toNat = 38
            · obtain ⟨k1, k2, k3⟩ := key (rg_sign (Or.inr (Or.inr (Or.inl (by rw [← ec]; exact x38)))))
              by_cases hn : (cmdL (c :: r)).1 = 0
              · rw [if_pos hn] at k2
                exact rg_38ok s ha hb hs' h0 k1 k2 x38 hn (k3 hn) rfl hw
              · exact rg_38no s ha hb hs' h0 k1 k2 x38 hn hw
            · by_cases x126 : (s[0]'h0).toNat = 126
              · obtain ⟨k1, k2, k3⟩ := key (rg_sign (Or.inr (Or.inr (Or.inr (Or.inl (by rw [← ec]; exact x126))))))
                by_cases hn : (cmdL (c :: r)).1 = 0
                · rw [if_pos hn] at k2
                  exact rg_126ok s ha hb hs' h0 k1 k2 x126 hn (k3 hn) rfl hw
                · exact rg_126no s ha hb hs' h0 k1 k2 x126 hn hw
              · by_cases x64 : (s[0]'h0).toNat = 64
                · obtain ⟨k1, k2, k3⟩ := key (rg_sign (Or.inr (Or.inr (Or.inr (Or.inr (Or.inl (by rw [← ec]; exact x64)))))))
                  by_cases hn : (cmdL (c :: r)).1 = 0
                  · rw [if_pos hn] at k2
                    exact rg_64ok s ha hb hs' h0 k1 k2 x64 hn (k3 hn) rfl hw
                  · exact rg_64no s ha hb hs' h0 k1 k2 x64 hn hw
                · by_cases x61 : (s[0]'h0).toNat = 61
                  · obtain ⟨k1, k2, k3⟩ := key (rg_sign (Or.inr (Or.inr (Or.inr (Or.inr (Or.inr ((by rw [← ec]; exact x61))))))))
                    by_cases hn : (cmdL (c :: r)).1 = 0
                    · rw [if_pos hn] at k2
                      exact rg_61ok s ha hb hs' h0 k1 k2 x61 hn (k3 hn) rfl hw
                    · exact rg_61no s ha hb hs' h0 k1 k2 x61 hn hw
                  · by_cases c2 : (s[0]'h0).toNat < 97
                    · exact rg_lo s hs' h0 c2 ⟨x62, x60, x38, x64, x61⟩ hw
                    · exact rg_hi s hs' h0 (by omega) x126 hw
    · have hn : s = ⟨#[]⟩ := by
        apply ByteArray.ext
        apply Array.toList_inj.1
        cases h : s.data.toList with
        | nil => rfl
        | cons c r => have q : s.size = r.length + 1 := by rw [Lib.size_eq, h]; rfl
                      omega
      subst hn
      exact rg_nil hw
end Go.Proofs.YtfgapmfjfienhaaGreatDoor
