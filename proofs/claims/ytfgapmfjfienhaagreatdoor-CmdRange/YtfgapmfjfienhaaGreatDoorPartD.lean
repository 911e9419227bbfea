/- Texts that the proof of the law stands on: AO, QB. -/
import Derived.Test.YtfgapmfjfienhaaGreatDoorPartC
/- Addresses of a text: Parse; Split. -/
namespace Go.Proofs.YtfgapmfjfienhaaGreatDoor
open Go.ChangeShapes Go.WideShapes Go.ChangeAt Go.RowKit Go.Maps Go.MapKept
set_option linter.unusedVariables false
set_option linter.unusedSimpArgs false
set_option maxRecDepth 100000
theorem sizeReader : (Tryz.prog.info? 131).map (·.size) = some 2 := by kernel_rfl
theorem sizePlace : (Tryz.prog.info? 129).map (·.size) = some 2 := by kernel_rfl
theorem one2 {a b : Value} (h : a.oneCell' = true ∧ b.oneCell' = true) : ∀ v ∈ [a, b], v.oneCell' = true := by
  intro v hv
  simp only [List.mem_cons, List.not_mem_nil, or_false] at hv
  rcases hv with rfl | rfl
  · exact h.1
  · exact h.2
section
variable {T : TypeId} {s : ByteArray} {k b : Nat} {w w1 w2 : World} {l : List UInt8}
set_option maxHeartbeats 16000000 in
theorem addresses_pct (h : Plc T s k b w) (hs : s.size ≤ 1000000) (hl : Lf s k l) {t : List UInt8} (hl1 : l.dropWhile ahB = 37 :: t) :
    Calls Tryz.prog 99 #[.pointer (some ⟨b, 0, none⟩)] w fun e w' => AdsR T s b (some ([{ kd := 1, n := 1 }, { kd := 3 }], t.dropWhile bkB)) w e w' := by
  have hL : Lf s (s.size - (37 :: t : List UInt8).length) (37 :: t) := hl.suf (by rw [← hl1]; exact dropW_suf l)
  obtain ⟨h1, h2, h3⟩ := hL.cons
  have HA : Hid (Calls Tryz.prog 125 #[.pointer (some ⟨b, 0, none⟩), .func (.func 126) #[] #[]] w fun e w' => (∃ x, e = .returned (.string x)) ∧ Hid (Fr (On b) w w' ∧ Plc T s (s.size - (37 :: t : List UInt8).length) b w')) := by
    rw [← hl1]; exact (whl_ahe h hs hl).mono (fun e w' ⟨q1, q2⟩ => ⟨q1, q2⟩)
  have HP : Hid (∀ z, (Fr (On b) w z ∧ Plc T s (s.size - (37 :: t : List UInt8).length) b z) → Calls Tryz.prog 127 #[.pointer (some ⟨b, 0, none⟩), .string ⟨#[37]⟩] z fun e w' => e = .returned (.tuple #[.int .u8 37, .bool true]) ∧ Hid (Fr (On b) w w' ∧ Plc T s (s.size - t.length) b w')) := by
    intro z hz
    refine (oneOf_yes hz.2 hs h1 (by rw [amo_pc' (byteAt_lt s _), h2]; rfl)).mono ?_
    rintro e w' ⟨rfl, q1, q2⟩
    exact ⟨by rw [h2]; rfl, hz.1.trans q1, by rw [← h3.pos]; exact q2⟩
  have HB : Hid (∀ z, (Fr (On b) w z ∧ Plc T s (s.size - t.length) b z) → Calls Tryz.prog 125 #[.pointer (some ⟨b, 0, none⟩), .func (.func 128) #[] #[]] z fun e w' => (∃ x, e = .returned (.string x)) ∧ Hid (Fr (On b) w w' ∧ Plc T s (s.size - (t.dropWhile bkB).length) b w')) := by
    intro z hz
    have h3' : Lf s (s.size - t.length) t := by rw [← h3.pos]; exact h3
    refine (whl_blk hz.2 hs h3').mono ?_
    rintro e w' ⟨q1, q2, q3⟩
    exact ⟨q1, hz.1.trans q2, q3⟩
  obtain ⟨r, hr⟩ : ∃ r, t.dropWhile bkB = r := ⟨_, rfl⟩
  rw [hr] at HB ⊢
  clear h hl hL h1 h2 h3 hr hl1
  go_enter Tryz.func99, Tryz.ntmps99
  go_wp2_with fail
  refine Calls.mono HA.out ?_
  rintro e w1 ⟨⟨x, rfl⟩, HX⟩
  clear HA
  go_wp2_with fail
  refine Calls.mono (HP.out _ HX.out) ?_
  rintro e w2 ⟨rfl, HY⟩
  clear HP HX
  go_wp2_with fail
  refine Calls.mono (HB.out _ HY.out) ?_
  rintro e w3 ⟨⟨x2, rfl⟩, HZ⟩
  clear HB HY
  have HR : Hid ((w3.alloc (.cells (adC { kd := 1, n := 1 } ++ adC { kd := 3 }).toArray 43)).ownsRow w3.heap.size 43 6 (.slice (some ⟨w3.heap.size, 0, none⟩) 2 2) 2 (adC { kd := 1, n := 1 } ++ adC { kd := 3 })) := row2 w3 _ _
  have HF : Hid (AdsR T s b (some ([{ kd := 1, n := 1 }, { kd := 3 }], r)) w (.returned (.tuple #[.slice (some ⟨w3.heap.size, 0, none⟩) 2 2, .int .u16 0])) (w3.alloc (.cells (adC { kd := 1, n := 1 } ++ adC { kd := 3 }).toArray 43))) := by
    refine .ok rfl ⟨⟨_, rfl, ?_⟩, HZ.out.1.trans (Fr.of_below (kp_alloc _ _)), HZ.out.2.kp (kp_alloc _ _)⟩
    exact row_lift HR.out fun j e => by have := (HR.out.lt j e).1; have := HZ.out.1.size; omega
  clear HZ HR
  go_wp2_with (refine Great.wpList_buildSliceTo rfl 25 43 2 #[(0, .tmp 27), (1, .tmp 28)] rfl w3.heap.size rfl (some 29) rfl Tryz.underlying25 (adC { kd := 1, n := 1 } ++ adC { kd := 3 }).toArray (by kernel_rfl) ?_)
  go_ret2
  exact HF.out
theorem addresses_any (h : Plc T s k b w) (hs : s.size ≤ 1000000) (hl : Lf s k l) :
    Calls Tryz.prog 99 #[.pointer (some ⟨b, 0, none⟩)] w fun e w' => AdsR T s b (parL l) w e w' := by
  unfold parL
  cases h1 : l.dropWhile ahB with
  | nil => exact addresses_none h hs hl h1 (fun t q => by cases q)
  | cons a t =>
    by_cases c : a = 37
    · subst c
      simp only [if_true]
      exact addresses_pct h hs hl h1
    · simp only [if_neg c]
      exact addresses_none h hs hl h1 (fun t q => c (by cases q; rfl))
/-- What Parse answers. -/
structure ApR (s : ByteArray) (R : Option (List AdP × List UInt8)) (w : World) (e : Ending) (w' : World) : Prop where
  yes : ∀ xs r, R = some (xs, r) → (∃ v, e = .returned (.tuple #[v, .int .i64 ((s.size - r.length : Nat) : Int), .int .u16 0]) ∧ w'.ownsRow w.heap.size 43 6 v xs.length (adCs xs)) ∧ Kp w w'
  no : R = none → e = .returned (.tuple #[.slice none 0 0, .int .i64 0, .int .u16 141]) ∧ Kp w w'
theorem kp_on (k : Kp w w1) (f : Fr (On b) w1 w2) (hb : w.heap.size ≤ b) : Kp w w2 :=
  ⟨f.os.trans k.os, f.tape.trans k.tape, f.output.trans k.output, Nat.le_trans k.size f.size, fun j hj => (f.block j (Nat.lt_of_lt_of_le hj k.size) (by unfold On; omega)).trans (k.block j hj)⟩
set_option maxHeartbeats 16000000 in
theorem aparse_any (s : ByteArray) (hs : s.size ≤ 1000000) (w : World) :
    Calls Tryz.prog 65 #[.string s] w fun e w' => ApR s (parL s.data.toList) w e w' := by
  obtain ⟨b, hb⟩ : ∃ b, w.heap.size = b := ⟨_, rfl⟩
  obtain ⟨W1, hW1⟩ : ∃ z, w.alloc (.cells #[.string ⟨#[]⟩, .int .i64 0] 131) = z := ⟨_, rfl⟩
  have HI : Hid (Lc 131 b [.string ⟨#[]⟩, .int .i64 0] W1 ∧ Kp w W1) := by rw [← hW1, ← hb]; exact ⟨Lc.new w [.string ⟨#[]⟩, .int .i64 0] 131, kp_alloc _ _⟩
  have HB : Hid (w.heap.size = b) := hb
  have HAd : Hid (∀ z, Plc 131 s 0 b z → Calls Tryz.prog 99 #[.pointer (some ⟨b, 0, none⟩)] z fun e w' => AdsR 131 s b (parL s.data.toList) z e w') := fun z hz => addresses_any hz hs (Lf.start s)
  obtain ⟨R, hR⟩ : ∃ R, parL s.data.toList = R := ⟨_, rfl⟩
  rw [hR] at HAd ⊢
  clear hR
  go_enter Tryz.func65, Tryz.ntmps65
  go_wp2_with (refine wpList_store_box HI.out.1 0 [.string s, .int .i64 0] rfl 131 (.tmp 5) (.tmp 10) rfl rfl rfl (Nat.le_refl 2) sizeReader (one2 ⟨rfl, rfl⟩) rfl ?_; intro w9 q1 q2 q3; have HP : Hid (Plc 131 s 0 b w9 ∧ Kp w w9) := ⟨q1, kp_on HI.out.2 q2 (Nat.le_of_eq HB.out)⟩; clear q1 q2 q3)
  refine Calls.mono (HAd.out _ HP.out.1) ?_
  clear HAd HI hb hW1
  intro e w2 q
  cases R with
  | none =>
    obtain ⟨rfl, q2, k, q3⟩ := q.no rfl
    have HK : Hid (Kp w w2) := kp_on HP.out.2 q2 (Nat.le_of_eq HB.out)
    clear q q2 q3 HP
    go_wp2_with fail
    go_ret3
    exact ⟨fun xs r e => (by cases e), fun _ => ⟨rfl, HK.out⟩⟩
  | some p =>
    obtain ⟨xs, r⟩ := p
    obtain ⟨⟨v, rfl, hv⟩, q2, q3⟩ := q.yes _ _ rfl
    have HX : Hid (∀ q, ApR s (some (xs, r)) w (.returned (.tuple #[v, .int .i64 ((s.size - r.length : Nat) : Int), .int .u16 0])) (w2.drewN q)) := fun q =>
      ⟨fun xs r e => by
        cases e
        refine ⟨⟨v, rfl, row_kp (row_lift hv fun j e => ?_) (kp_drewN _ q)⟩, kp_trans (kp_on HP.out.2 q2 (Nat.le_of_eq HB.out)) (kp_drewN _ q)⟩
        have := (hv.lt j e).1
        have := HP.out.2.size
        omega, fun e => by cases e⟩
    have c1 := q3.c1
    clear q q2 q3 HP hv
    go_wp2_with fail
    go_quiet (fail)
    go_wp2_with fail
    go_ret3
    exact HX.out _
set_option maxHeartbeats 16000000 in
theorem asplit_any (s : ByteArray) (hs : s.size ≤ 1000000) (hl : Lf s k l) (g : UInt8) (w : World) :
    Calls Tryz.prog 107 #[.string s, .int .i64 (k : Int), .int .u8 (g.toNat : Int)] w fun e w' => e = .returned (.tuple #[.string ⟨(upL g l).1.toArray⟩, .int .i64 ((s.size - (upL g l).2.length : Nat) : Int)]) ∧ Kp w w' := by
  obtain ⟨b, hb⟩ : ∃ b, w.heap.size = b := ⟨_, rfl⟩
  obtain ⟨W1, hW1⟩ : ∃ z, w.alloc (.cells #[.string ⟨#[]⟩, .int .i64 0] 129) = z := ⟨_, rfl⟩
  have HI : Hid (Lc 129 b [.string ⟨#[]⟩, .int .i64 0] W1 ∧ Kp w W1) := by rw [← hW1, ← hb]; exact ⟨Lc.new w [.string ⟨#[]⟩, .int .i64 0] 129, kp_alloc _ _⟩
  have HB : Hid (w.heap.size = b) := hb
  have HU : Hid (∀ z, Plc 129 s k b z → Calls Tryz.prog 135 #[.pointer (some ⟨b, 0, none⟩), .int .u8 (g.toNat : Int)] z fun e w' => e = .returned (.string ⟨(upL g l).1.toArray⟩) ∧ Fr (On b) z w' ∧ Plc 129 s (s.size - (upL g l).2.length) b w') := fun z hz => upTo_any hz hs hl g
  obtain ⟨U, hU⟩ : ∃ U, upL g l = U := ⟨_, rfl⟩
  rw [hU] at HU ⊢
  have hk := hl.1
  have m1 : min (k : Int) (s.size : Int) = (k : Int) := by omega
  clear hU hl hk
  go_enter Tryz.func107, Tryz.ntmps107
  go_wp2_with (refine wpList_store_box HI.out.1 0 [.string s, .int .i64 (k : Int)] rfl 129 (.tmp 8) (.tmp 16) rfl rfl rfl (Nat.le_refl 2) sizePlace (one2 ⟨rfl, rfl⟩) rfl ?_; intro w9 q1 q2 q3; have HP : Hid (Plc 129 s k b w9 ∧ Kp w w9) := ⟨q1, kp_on HI.out.2 q2 (Nat.le_of_eq HB.out)⟩; clear q1 q2 q3)
  refine Calls.mono (HU.out _ HP.out.1) ?_
  rintro e w2 ⟨rfl, q2, q3⟩
  have HX : Hid (∀ q, Kp w (w2.drewN q)) := fun q => kp_trans (kp_on HP.out.2 q2 (Nat.le_of_eq HB.out)) (kp_drewN _ q)
  have c1 := q3.c1
  clear HU HI hb hW1 q2 q3 HP
  go_wp2_with fail
  go_quiet (fail)
  go_wp2_with fail
  go_ret2
  exact ⟨rfl, HX.out _⟩
end
end Go.Proofs.YtfgapmfjfienhaaGreatDoor
/- Places in package cmd. -/
namespace Go.Proofs.YtfgapmfjfienhaaGreatDoor
open Go.ChangeShapes Go.WideShapes Go.ChangeAt Go.RowKit Go.Maps Go.MapKept
set_option linter.unusedVariables false
set_option linter.unusedSimpArgs false
set_option maxRecDepth 100000
/-- A place at the head of a block. -/
def Pc (T : TypeId) (s : ByteArray) (k : Nat) (m : List Value) (b : Nat) (w : World) : Prop := Lc T b (.string s :: .int .i64 (k : Int) :: m) w
section
variable {T : TypeId} {s : ByteArray} {k j b : Nat} {m : List Value} {w w1 : World} {l : List UInt8}
theorem Pc.kp (h : Pc T s k m b w) (q : Kp w w1) : Pc T s k m b w1 := Lc.kp h q
theorem Pc.to (h : Pc T s k m b w) (n : Nat) : Pc T s n m b (w.setCell ⟨b, 1, none⟩ (.int .i64 (n : Int))) := Lc.set h 1 _
theorem Pc.c0 (h : Pc T s k m b w) : w.cell? ⟨b, 0, none⟩ = some (.string s) := Lc.at h (j := 0) rfl
theorem Pc.c1 (h : Pc T s k m b w) : w.cell? ⟨b, 1, none⟩ = some (.int .i64 (k : Int)) := Lc.at h (j := 1) rfl
theorem Pc.f1 (h : Pc T s k m b w) : w.frozen? ⟨b, 1, none⟩ = false := Lc.fz h 1
theorem Pc.lt (h : Pc T s k m b w) : b < w.heap.size := Lc.lt h
theorem ext_rest (hl : Lf s k l) : s.extract k s.size = ⟨l.toArray⟩ := by
  apply ByteArray.ext
  rw [ByteArray.data_extract]
  apply Array.ext'
  rw [Array.toList_extract, List.extract_eq_take_drop, hl.2]
  have := hl.len
  simp [← this]
theorem rest_any (h : Pc T s k m b w) (hs : s.size ≤ 1000000) (hl : Lf s k l) :
    Calls Tryz.prog 31 #[.pointer (some ⟨b, 0, none⟩)] w fun e w' => e = .returned (.string ⟨l.toArray⟩) ∧ ∃ q, w' = w.drewN q := by
  have c0 := h.c0; have c1 := h.c1
  have HE : Hid (s.extract k s.size = ⟨l.toArray⟩) := ext_rest hl
  have hk := hl.1
  have g1 : decide (k ≤ s.size) = true := decide_eq_true hk
  clear h hl
  go_enter Tryz.func31, Tryz.ntmps31
  go_wp2_with fail
  go_quiet (fail)
  go_wp2_with fail
  go_ret
  exact ⟨by rw [← HE.out]; rfl, _, rfl⟩
theorem cdig_any (c : Int) (w : World) : Calls Tryz.prog 75 #[.int .u8 c] w fun e w' => e = .returned (.bool (isB 100 c)) ∧ Kp w w' := by
  have HK : Hid _ := kIs_any (k := 100) (c := c) (w := w)
  go_enter Tryz.func75, Tryz.ntmps75
  go_wp2_with fail
  refine Calls.mono HK.out ?_
  rintro e w2 ⟨rfl, k⟩
  have HX : Hid _ := k
  clear HK k
  go_wp2_with fail
  go_ret
  exact ⟨rfl, HX.out⟩
theorem cblk_any (c : Int) (w : World) : Calls Tryz.prog 67 #[.int .u8 c] w fun e w' => e = .returned (.bool (isB 115 c)) ∧ Kp w w' := by
  have HK : Hid _ := kIs_any (k := 115) (c := c) (w := w)
  go_enter Tryz.func67, Tryz.ntmps67
  go_wp2_with fail
  refine Calls.mono HK.out ?_
  rintro e w2 ⟨rfl, k⟩
  have HX : Hid _ := k
  clear HK k
  go_wp2_with fail
  go_ret
  exact ⟨rfl, HX.out⟩
theorem cany_any (c : Int) (w : World) : Calls Tryz.prog 78 #[.int .u8 c] w fun e w' => e = .returned (.bool true) ∧ Kp w w' := by
  go_enter Tryz.func78, Tryz.ntmps78
  go_wp2_with fail
  go_ret
  exact ⟨rfl, Below.refl _ _⟩
theorem cbld_any (c : Nat) (w : World) : Calls Tryz.prog 34 #[.int .u8 (c : Int)] w fun e w' => e = .returned (.bool (bldF c)) ∧ Kp w w' := by
  have hc : ((c : Int) == 33) = (c == 33) := by rw [Bool.eq_iff_iff]; simp; omega
  unfold bldF
  go_enter Tryz.func34, Tryz.ntmps34
  go_wp2_with fail
  go_ret
  exact ⟨by rw [← hc]; rfl, Below.refl _ _⟩
theorem crgs_any (c : Nat) (w : World) : Calls Tryz.prog 77 #[.int .u8 (c : Int)] w fun e w' => e = .returned (.bool (rgsF c)) ∧ Kp w w' := by
  have HK : Hid _ := cdig_any (c : Int) w
  go_enter Tryz.func77, Tryz.ntmps77
  go_wp2_with fail
  refine Calls.mono HK.out ?_
  rintro e w2 ⟨rfl, k⟩
  have HX : Hid _ := k
  clear HK k
  go_wp2_with fail
  go_ret
  exact ⟨rfl, HX.out⟩
theorem amo_fl : ∀ c : Fin 256, amo c.val ⟨#[38, 99, 101, 103, 105, 73, 110]⟩ = flgF c.val := by decide +kernel
theorem amo_no : ∀ c : Fin 256, amo c.val ⟨#[34, 124, 92, 38, 35, 33]⟩ = nosF c.val := by decide +kernel
theorem cflg_any (c : Nat) (hc : c < 256) (w : World) : Calls Tryz.prog 84 #[.int .u8 (c : Int)] w fun e w' => e = .returned (.bool (flgF c)) ∧ Kp w w' := by
  have HI : Hid _ := indexByte_any ⟨#[38, 99, 101, 103, 105, 73, 110]⟩ (c : Int) w
  have HF : Hid _ := amo_fl ⟨c, hc⟩
  go_enter Tryz.func84, Tryz.ntmps84
  go_wp2_with fail
  refine Calls.mono HI.out ?_
  rintro e w2 ⟨rfl, rfl⟩
  clear HI
  go_wp2_with fail
  go_ret
  exact ⟨by rw [← HF.out]; rfl, Below.refl _ _⟩
theorem csgn_any (c : Nat) (hc : c < 256) (w : World) : Calls Tryz.prog 106 #[.int .u8 (c : Int)] w fun e w' => e = .returned (.bool (sgnF c)) ∧ Kp w w' := by
  have HK : Hid _ := kIs_any (k := 97) (c := (c : Int)) (w := w)
  have HD : Hid (∀ z, Calls Tryz.prog 75 #[.int .u8 (c : Int)] z fun e w' => e = .returned (.bool (digF c)) ∧ Kp z w') := fun z => cdig_any _ z
  have HB : Hid (∀ z, Calls Tryz.prog 67 #[.int .u8 (c : Int)] z fun e w' => e = .returned (.bool (blkF c)) ∧ Kp z w') := fun z => cblk_any _ z
  have HI : Hid (∀ z, Calls Tryz.prog 109 #[.string ⟨#[34, 124, 92, 38, 35, 33]⟩, .int .u8 (c : Int)] z fun e w' => e = .returned (.int .i64 (Lib.indexByte [34, 124, 92, 38, 35, 33] c.toUInt8)) ∧ w' = z) := fun z => indexByte_any _ _ z
  have HF : Hid (decide (0 ≤ Lib.indexByte [34, 124, 92, 38, 35, 33] c.toUInt8) = nosF c) := amo_no ⟨c, hc⟩
  obtain ⟨I, hI⟩ : ∃ I, Lib.indexByte [34, 124, 92, 38, 35, 33] c.toUInt8 = I := ⟨_, rfl⟩
  rw [hI] at HI HF
  unfold sgnF
  obtain ⟨A, hA⟩ : ∃ A, isB 97 (c : Int) = A := ⟨_, rfl⟩
  obtain ⟨D, hD⟩ : ∃ D, digF c = D := ⟨_, rfl⟩
  obtain ⟨B, hB⟩ : ∃ B, blkF c = B := ⟨_, rfl⟩
  obtain ⟨N, hN⟩ : ∃ N, nosF c = N := ⟨_, rfl⟩
  rw [hN] at HF
  rw [hA, hD, hB, hN]
  rw [hA] at HK
  rw [hD] at HD
  rw [hB] at HB
  have hlt : decide (I < 0) = !N := by
    have := HF.out
    rw [← this]
    by_cases q : I < 0
    · rw [decide_eq_true q, decide_eq_false (by omega)]; rfl
    · rw [decide_eq_false q, decide_eq_true (by omega)]; rfl
  clear hI hA hD hB hN HF
  go_enter Tryz.func106, Tryz.ntmps106
  go_wp2_with fail
  refine Calls.mono HK.out ?_
  rintro e w2 ⟨rfl, k1⟩
  have H1 : Hid (Kp w w2) := k1
  clear HK k1
  cases A with
  | true =>
    go_wp2_with fail
    go_ret
    exact ⟨rfl, H1.out⟩
  | false =>
    go_wp2_with fail
    refine Calls.mono (HD.out _) ?_
    rintro e w3 ⟨rfl, k2⟩
    have H2 : Hid (Kp w w3) := kp_trans H1.out k2
    clear HD H1 k2
    cases D with
    | true =>
      go_wp2_with fail
      go_ret
      exact ⟨rfl, H2.out⟩
    | false =>
      go_wp2_with fail
      refine Calls.mono (HB.out _) ?_
      rintro e w4 ⟨rfl, k3⟩
      have H3 : Hid (Kp w w4) := kp_trans H2.out k3
      clear HB H2 k3
      cases B with
      | true =>
        go_wp2_with fail
        go_ret
        exact ⟨rfl, H3.out⟩
      | false =>
        go_wp2_with fail
        refine Calls.mono (HI.out _) ?_
        rintro e w5 ⟨rfl, rfl⟩
        clear HI
        cases N with
        | true =>
          go_wp2_with fail
          go_ret
          exact ⟨rfl, H3.out⟩
        | false =>
          go_wp2_with fail
          go_ret
          exact ⟨rfl, H3.out⟩
theorem oneL_yes {F : Nat → Bool} {a : UInt8} {r : List UInt8} (h : F a.toNat = true) : oneL F (a :: r) = (some a, r) := by unfold oneL; simp only [if_pos h]
theorem oneL_no {F : Nat → Bool} {a : UInt8} {r : List UInt8} (h : F a.toNat = false) : oneL F (a :: r) = (none, a :: r) := by
  unfold oneL; simp only [h, if_neg (by decide : ¬ false = true)]
theorem oneL_suf (F : Nat → Bool) (l : List UInt8) : (oneL F l).2 <:+ l := by
  cases l with
  | nil => exact List.suffix_refl _
  | cons a r =>
    cases h : F a.toNat with
    | true => rw [oneL_yes h]; exact ⟨[a], rfl⟩
    | false => rw [oneL_no h]; exact List.suffix_refl _
set_option maxHeartbeats 8000000 in
theorem one_bld (h : Pc T s k m b w) (hs : s.size ≤ 1000000) (hl : Lf s k l) :
    Calls Tryz.prog 33 #[.pointer (some ⟨b, 0, none⟩), .func (.func 34) #[] #[]] w fun e w' => e = .returned (.tuple #[.int .u8 ((((oneL bldF l).1.map UInt8.toNat).getD 0 : Nat) : Int), .bool (oneL bldF l).1.isSome]) ∧ Fr (On b) w w' ∧ Pc T s (s.size - (oneL bldF l).2.length) m b w' := by
  cases l with
  | nil =>
    have e := hl.end_
    subst e
    have HE : Hid (∀ q, Fr (On b) w (w.drewN q) ∧ Pc T s s.size m b (w.drewN q)) := fun q => ⟨Fr.drewN _ _ q, h.kp (kp_drewN _ q)⟩
    have c0 := h.c0; have c1 := h.c1
    have hne : ((s.size : Int) == (s.size : Int)) = true := by simp
    clear h hl
    go_enter Tryz.func33, Tryz.ntmps33
    go_wp2_with fail
    go_quiet (fail)
    go_wp2_with fail
    go_ret2
    exact ⟨rfl, HE.out _⟩
  | cons a r =>
    obtain ⟨h1, h2, h3⟩ := hl.cons
    have c0 := h.c0; have c1 := h.c1
    have hne : ((k : Int) == (s.size : Int)) = false := by simp; omega
    have hb := byteAt_eq s k h1
    rw [h2] at hb
    have hp3 := h3.pos
    have hpl := hl.pos
    have HFJ : Hid (∀ w2, Kp w w2 → Fr (On b) w w2 ∧ Pc T s k m b w2) := fun w2 k2 => ⟨Fr.of_below k2, h.kp k2⟩
    cases hf : bldF a.toNat with
    | true =>
      rw [oneL_yes hf]
      have HC : Hid (∀ q, Calls Tryz.prog 34 #[.int .u8 (s[k].toNat : Int)] (w.drewN q) fun e w' => e = .returned (.bool true) ∧ Kp w w') := fun q => by
        rw [← hb]
        refine (cbld_any a.toNat (w.drewN q)).mono ?_
        rintro e w' ⟨rfl, k⟩
        exact ⟨by show Ending.returned (Value.bool (bldF a.toNat)) = _; rw [hf], kp_trans (kp_drewN _ q) k⟩
      have HB : Hid (a.toNat = s[k].toNat) := hb
      have hK : s.size - r.length = k + 1 := hp3.symm
      rw [hK]
      clear h hl h2 h3 hb hp3 hpl hf hK
      go_enter Tryz.func33, Tryz.ntmps33
      go_upto_region 1 with fail
      refine wp_region_noPanic ?_
      refine wp_region_held_drew (S := fun z => z.cell? ⟨b, 0, none⟩ = some (.string s) ∧ z.cell? ⟨b, 1, none⟩ = some (.int .i64 (k : Int))) (by kernel_rfl) (⟨kp_cell (kp_drew _) c0, kp_cell (kp_drew _) c1⟩) (fun hHeld => ?_)
      refine takeAt 0 (some 6) ?_ rfl rfl (by kernel_rfl) (by kernel_rfl) (by kernel_rfl) (fun _ _ _ h => h) (Or.inl ⟨by rfl, ?_⟩) hHeld ?_
      rotate_left
      · intro w hSw
        go_simp <;> with_reducible rfl
      try simp only [Act.put, List.setIfInBounds_toArray, List.set_cons_zero, List.set_cons_succ]
      refine takeAt 1 (some 7) ?_ rfl rfl (by kernel_rfl) (by kernel_rfl) (by kernel_rfl) (fun _ _ _ h => h) (Or.inl ⟨by rfl, ?_⟩) hHeld ?_
      rotate_left
      · intro w hSw
        go_simp <;> with_reducible rfl
      try simp only [Act.put, List.setIfInBounds_toArray, List.set_cons_zero, List.set_cons_succ]
      refine takeAt 2 (some 8) ?_ rfl rfl (by kernel_rfl) (by kernel_rfl) (by kernel_rfl) (fun _ _ _ h => h) (Or.inl ⟨by rfl, ?_⟩) hHeld ?_
      rotate_left
      · intro w hSw
        go_simp <;> with_reducible rfl
      try simp only [Act.put, List.setIfInBounds_toArray, List.set_cons_zero, List.set_cons_succ]
      refine takeAt 3 (some 9) ?_ rfl rfl (by kernel_rfl) (by kernel_rfl) (by kernel_rfl) (fun _ _ _ h => h) (Or.inl ⟨by rfl, ?_⟩) hHeld ?_
      rotate_left
      · intro w hSw
        go_simp <;> with_reducible rfl
      try simp only [Act.put, List.setIfInBounds_toArray, List.set_cons_zero, List.set_cons_succ]
      refine takeAt 4 (some 10) ?_ rfl rfl (by kernel_rfl) (by kernel_rfl) (by kernel_rfl) (fun _ _ _ h => h) (Or.inl ⟨by rfl, ?_⟩) hHeld ?_
      rotate_left
      · intro w hSw
        go_simp <;> with_reducible rfl
      try simp only [Act.put, List.setIfInBounds_toArray, List.set_cons_zero, List.set_cons_succ]
      refine takeAt 5 (some 11) ?_ rfl rfl (by kernel_rfl) (by kernel_rfl) (by kernel_rfl) (fun _ _ _ h => h) (Or.inl ⟨by rfl, ?_⟩) hHeld ?_
      rotate_left
      · intro w hSw
        go_simp <;> with_reducible rfl
      try simp only [Act.put, List.setIfInBounds_toArray, List.set_cons_zero, List.set_cons_succ]
      refine takeAt 6 (some 12) ?_ rfl rfl (by kernel_rfl) (by kernel_rfl) (by kernel_rfl) (fun _ _ _ h => h) (Or.inl ⟨by rfl, ?_⟩) hHeld ?_
      rotate_left
      · intro w hSw
        go_simp <;> with_reducible rfl
      try simp only [Act.put, List.setIfInBounds_toArray, List.set_cons_zero, List.set_cons_succ]
      refine takeAt 7 (some 13) ?_ rfl rfl (by kernel_rfl) (by kernel_rfl) (by kernel_rfl) (fun _ _ _ h => h) (Or.inl ⟨by rfl, ?_⟩) hHeld ?_
      rotate_left
      · intro w hSw
        go_simp <;> with_reducible rfl
      try simp only [Act.put, List.setIfInBounds_toArray, List.set_cons_zero, List.set_cons_succ]
      refine takeAt 8 (some 14) ?_ rfl rfl (by kernel_rfl) (by kernel_rfl) (by kernel_rfl) (fun _ _ _ h => h) (Or.inl ⟨by rfl, ?_⟩) hHeld ?_
      rotate_left
      · intro w hSw
        go_simp <;> with_reducible rfl
      try simp only [Act.put, List.setIfInBounds_toArray, List.set_cons_zero, List.set_cons_succ]
      refine takeAt 9 (some 15) ?_ rfl rfl (by kernel_rfl) (by kernel_rfl) (by kernel_rfl) (fun _ _ _ h => h) (Or.inl ⟨by rfl, ?_⟩) hHeld ?_
      rotate_left
      · intro w hSw
        go_simp <;> with_reducible rfl
      try simp only [Act.put, List.setIfInBounds_toArray, List.set_cons_zero, List.set_cons_succ]
      refine takeAt 10 (some 16) ?_ rfl rfl (by kernel_rfl) (by kernel_rfl) (by kernel_rfl) (fun _ _ _ h => h) (Or.inl ⟨by rfl, ?_⟩) hHeld ?_
      rotate_left
      · intro w hSw
        go_simp <;> with_reducible rfl
      try simp only [Act.put, List.setIfInBounds_toArray, List.set_cons_zero, List.set_cons_succ]
      refine takeAt 11 (some 17) ?_ rfl rfl (by kernel_rfl) (by kernel_rfl) (by kernel_rfl) (fun _ _ _ h => h) (Or.inl ⟨by rfl, ?_⟩) hHeld ?_
      rotate_left
      · intro w hSw
        go_simp <;> with_reducible rfl
      try simp only [Act.put, List.setIfInBounds_toArray, List.set_cons_zero, List.set_cons_succ]
      refine takeAt 12 (some 18) ?_ rfl rfl (by kernel_rfl) (by kernel_rfl) (by kernel_rfl) (fun _ _ _ h => h) (Or.inl ⟨by rfl, ?_⟩) hHeld ?_
      rotate_left
      · intro w hSw
        go_simp <;> with_reducible rfl
      try simp only [Act.put, List.setIfInBounds_toArray, List.set_cons_zero, List.set_cons_succ]
      refine takeAt 13 (some 19) ?_ rfl rfl (by kernel_rfl) (by kernel_rfl) (by kernel_rfl) (fun _ _ _ h => h) (Or.inl ⟨by rfl, ?_⟩) hHeld ?_
      rotate_left
      · intro w hSw
        go_simp <;> with_reducible rfl
      try simp only [Act.put, List.setIfInBounds_toArray, List.set_cons_zero, List.set_cons_succ]
      refine takeAt 14 (some 20) ?_ rfl rfl (by kernel_rfl) (by kernel_rfl) (by kernel_rfl) (fun _ _ _ h => h) (Or.inl ⟨by rfl, ?_⟩) hHeld ?_
      rotate_left
      · intro w hSw
        go_simp <;> with_reducible rfl
      try simp only [Act.put, List.setIfInBounds_toArray, List.set_cons_zero, List.set_cons_succ]
      refine takeAt 15 (some 21) ?_ rfl rfl (by kernel_rfl) (by kernel_rfl) (by kernel_rfl) (fun _ _ _ h => h) (Or.inl ⟨by rfl, ?_⟩) hHeld ?_
      rotate_left
      · intro w hSw
        go_simp <;> with_reducible rfl
      try simp only [Act.put, List.setIfInBounds_toArray, List.set_cons_zero, List.set_cons_succ]
      refine takeAt 16 (some 22) ?_ rfl rfl (by kernel_rfl) (by kernel_rfl) (by kernel_rfl) (fun _ _ _ h => h) (Or.inl ⟨by rfl, ?_⟩) hHeld ?_
      rotate_left
      · intro w hSw
        go_simp <;> with_reducible rfl
      try simp only [Act.put, List.setIfInBounds_toArray, List.set_cons_zero, List.set_cons_succ]
      refine takeAt 17 (some 23) ?_ rfl rfl (by kernel_rfl) (by kernel_rfl) (by kernel_rfl) (fun _ _ _ h => h) (Or.inl ⟨by rfl, ?_⟩) hHeld ?_
      rotate_left
      · intro w hSw
        go_simp <;> with_reducible rfl
      try simp only [Act.put, List.setIfInBounds_toArray, List.set_cons_zero, List.set_cons_succ]
      refine takeAt 18 (some 24) ?_ rfl rfl (by kernel_rfl) (by kernel_rfl) (by kernel_rfl) (fun _ _ _ h => h) (Or.inl ⟨by rfl, ?_⟩) hHeld ?_
      rotate_left
      · intro w hSw
        go_simp <;> with_reducible rfl
      try simp only [Act.put, List.setIfInBounds_toArray, List.set_cons_zero, List.set_cons_succ]
      refine takeAt 19 (some 25) ?_ rfl rfl (by kernel_rfl) (by kernel_rfl) (by kernel_rfl) (fun _ _ _ h => h) (Or.inl ⟨by rfl, ?_⟩) hHeld ?_
      rotate_left
      · intro w hSw
        go_simp <;> with_reducible rfl
      try simp only [Act.put, List.setIfInBounds_toArray, List.set_cons_zero, List.set_cons_succ]
      refine takeAt 20 (some 26) ?_ rfl rfl (by kernel_rfl) (by kernel_rfl) (by kernel_rfl) (fun _ _ _ h => h) (Or.inl ⟨by rfl, ?_⟩) hHeld ?_
      rotate_left
      · intro w hSw
        go_simp <;> with_reducible rfl
      try simp only [Act.put, List.setIfInBounds_toArray, List.set_cons_zero, List.set_cons_succ]
      refine wpAnyH_ready (rs := [21]) (by kernel_rfl) (by simp) ?_
      refine AllReadyH.cons rfl (fun K hK => ?_) AllReadyH.nil
      rw [if_pos (by rfl)]
      refine call_stepV 27 34 (vals := #[.int .u8 (s[k].toNat : Int)]) rfl rfl rfl (by simp [Act.eval]) Tryz.func34 (by kernel_rfl) (by kernel_rfl) ?_
      refine Calls.mono (HC.out 1) ?_
      rintro e w2 ⟨rfl, kk⟩
      obtain ⟨xf, xp⟩ := HFJ.out w2 kk
      have HX : Hid (Fr (On b) w w2 ∧ Pc T s k m b w2) := ⟨xf, xp⟩
      clear xf xp kk
      refine ⟨_, rfl, ?_⟩
      refine hK.out _ _ ⟨HX.out.2.c0, HX.out.2.c1⟩ (fun hHeld => ?_)
      clear hK K
      try simp only [Act.put, List.setIfInBounds_toArray, List.set_cons_zero, List.set_cons_succ]
      refine takeAt 22 (some 28) ?_ rfl rfl (by kernel_rfl) (by kernel_rfl) (by kernel_rfl) (fun _ _ _ h => h) (Or.inl ⟨by rfl, ?_⟩) hHeld ?_
      rotate_left
      · intro w hSw
        go_simp <;> with_reducible rfl
      try simp only [Act.put, List.setIfInBounds_toArray, List.set_cons_zero, List.set_cons_succ]
      refine takeAt 23 (some 29) ?_ rfl rfl (by kernel_rfl) (by kernel_rfl) (by kernel_rfl) (fun _ _ _ h => h) (Or.inl ⟨by rfl, ?_⟩) hHeld ?_
      rotate_left
      · intro w hSw
        go_simp <;> with_reducible rfl
      try simp only [Act.put, List.setIfInBounds_toArray, List.set_cons_zero, List.set_cons_succ]
      refine wpAnyH_done (by kernel_rfl) ?_ _
      refine NoPanic.normal ?_
      clear HC HFJ c0 c1 hHeld
      have c0 := HX.out.2.c0
      have c1 := HX.out.2.c1
      have f1 := HX.out.2.f1
      go_upto_region 4 with fail
      have HY : Hid (∀ q, Fr (On b) w ((w2.setCell ⟨b, 1, none⟩ (.int .i64 ((k : Int) + 1))).drewN q) ∧ Pc T s (k + 1) m b ((w2.setCell ⟨b, 1, none⟩ (.int .i64 ((k : Int) + 1))).drewN q)) := fun q =>
        ⟨(HX.out.1.trans (fr_set _ _ _ _)).trans (Fr.drewN _ _ q), (HX.out.2.to (k + 1)).kp (kp_drewN _ q)⟩
      clear HX
      go_quiet (fail)
      go_wp2_with fail
      go_ret2
      exact ⟨by show Ending.returned (.tuple #[.int .u8 (s[k].toNat : Int), .bool true]) = Ending.returned (.tuple #[.int .u8 (a.toNat : Int), .bool true]); rw [HB.out], HY.out _⟩
    | false =>
      rw [oneL_no hf]
      have HC : Hid (∀ q, Calls Tryz.prog 34 #[.int .u8 (s[k].toNat : Int)] (w.drewN q) fun e w' => e = .returned (.bool false) ∧ Kp w w') := fun q => by
        rw [← hb]
        refine (cbld_any a.toNat (w.drewN q)).mono ?_
        rintro e w' ⟨rfl, k⟩
        exact ⟨by show Ending.returned (Value.bool (bldF a.toNat)) = _; rw [hf], kp_trans (kp_drewN _ q) k⟩
      have hK : s.size - (a :: r).length = k := hpl.symm
      rw [hK]
      clear h hl h2 h3 hb hp3 hpl hf hK
      go_enter Tryz.func33, Tryz.ntmps33
      go_upto_region 1 with fail
      refine wp_region_noPanic ?_
      refine wp_region_held_drew (S := fun z => z.cell? ⟨b, 0, none⟩ = some (.string s) ∧ z.cell? ⟨b, 1, none⟩ = some (.int .i64 (k : Int))) (by kernel_rfl) (⟨kp_cell (kp_drew _) c0, kp_cell (kp_drew _) c1⟩) (fun hHeld => ?_)
      refine takeAt 0 (some 6) ?_ rfl rfl (by kernel_rfl) (by kernel_rfl) (by kernel_rfl) (fun _ _ _ h => h) (Or.inl ⟨by rfl, ?_⟩) hHeld ?_
      rotate_left
      · intro w hSw
        go_simp <;> with_reducible rfl
      try simp only [Act.put, List.setIfInBounds_toArray, List.set_cons_zero, List.set_cons_succ]
      refine takeAt 1 (some 7) ?_ rfl rfl (by kernel_rfl) (by kernel_rfl) (by kernel_rfl) (fun _ _ _ h => h) (Or.inl ⟨by rfl, ?_⟩) hHeld ?_
      rotate_left
      · intro w hSw
        go_simp <;> with_reducible rfl
      try simp only [Act.put, List.setIfInBounds_toArray, List.set_cons_zero, List.set_cons_succ]
      refine takeAt 2 (some 8) ?_ rfl rfl (by kernel_rfl) (by kernel_rfl) (by kernel_rfl) (fun _ _ _ h => h) (Or.inl ⟨by rfl, ?_⟩) hHeld ?_
      rotate_left
      · intro w hSw
        go_simp <;> with_reducible rfl
      try simp only [Act.put, List.setIfInBounds_toArray, List.set_cons_zero, List.set_cons_succ]
      refine takeAt 3 (some 9) ?_ rfl rfl (by kernel_rfl) (by kernel_rfl) (by kernel_rfl) (fun _ _ _ h => h) (Or.inl ⟨by rfl, ?_⟩) hHeld ?_
      rotate_left
      · intro w hSw
        go_simp <;> with_reducible rfl
      try simp only [Act.put, List.setIfInBounds_toArray, List.set_cons_zero, List.set_cons_succ]
      refine takeAt 4 (some 10) ?_ rfl rfl (by kernel_rfl) (by kernel_rfl) (by kernel_rfl) (fun _ _ _ h => h) (Or.inl ⟨by rfl, ?_⟩) hHeld ?_
      rotate_left
      · intro w hSw
        go_simp <;> with_reducible rfl
      try simp only [Act.put, List.setIfInBounds_toArray, List.set_cons_zero, List.set_cons_succ]
      refine takeAt 5 (some 11) ?_ rfl rfl (by kernel_rfl) (by kernel_rfl) (by kernel_rfl) (fun _ _ _ h => h) (Or.inl ⟨by rfl, ?_⟩) hHeld ?_
      rotate_left
      · intro w hSw
        go_simp <;> with_reducible rfl
      try simp only [Act.put, List.setIfInBounds_toArray, List.set_cons_zero, List.set_cons_succ]
      refine takeAt 6 (some 12) ?_ rfl rfl (by kernel_rfl) (by kernel_rfl) (by kernel_rfl) (fun _ _ _ h => h) (Or.inl ⟨by rfl, ?_⟩) hHeld ?_
      rotate_left
      · intro w hSw
        go_simp <;> with_reducible rfl
      try simp only [Act.put, List.setIfInBounds_toArray, List.set_cons_zero, List.set_cons_succ]
      refine takeAt 7 (some 13) ?_ rfl rfl (by kernel_rfl) (by kernel_rfl) (by kernel_rfl) (fun _ _ _ h => h) (Or.inl ⟨by rfl, ?_⟩) hHeld ?_
      rotate_left
      · intro w hSw
        go_simp <;> with_reducible rfl
      try simp only [Act.put, List.setIfInBounds_toArray, List.set_cons_zero, List.set_cons_succ]
      refine takeAt 8 (some 14) ?_ rfl rfl (by kernel_rfl) (by kernel_rfl) (by kernel_rfl) (fun _ _ _ h => h) (Or.inl ⟨by rfl, ?_⟩) hHeld ?_
      rotate_left
      · intro w hSw
        go_simp <;> with_reducible rfl
      try simp only [Act.put, List.setIfInBounds_toArray, List.set_cons_zero, List.set_cons_succ]
      refine takeAt 9 (some 15) ?_ rfl rfl (by kernel_rfl) (by kernel_rfl) (by kernel_rfl) (fun _ _ _ h => h) (Or.inl ⟨by rfl, ?_⟩) hHeld ?_
      rotate_left
      · intro w hSw
        go_simp <;> with_reducible rfl
      try simp only [Act.put, List.setIfInBounds_toArray, List.set_cons_zero, List.set_cons_succ]
      refine takeAt 10 (some 16) ?_ rfl rfl (by kernel_rfl) (by kernel_rfl) (by kernel_rfl) (fun _ _ _ h => h) (Or.inl ⟨by rfl, ?_⟩) hHeld ?_
      rotate_left
      · intro w hSw
        go_simp <;> with_reducible rfl
      try simp only [Act.put, List.setIfInBounds_toArray, List.set_cons_zero, List.set_cons_succ]
      refine takeAt 11 (some 17) ?_ rfl rfl (by kernel_rfl) (by kernel_rfl) (by kernel_rfl) (fun _ _ _ h => h) (Or.inl ⟨by rfl, ?_⟩) hHeld ?_
      rotate_left
      · intro w hSw
        go_simp <;> with_reducible rfl
      try simp only [Act.put, List.setIfInBounds_toArray, List.set_cons_zero, List.set_cons_succ]
      refine takeAt 12 (some 18) ?_ rfl rfl (by kernel_rfl) (by kernel_rfl) (by kernel_rfl) (fun _ _ _ h => h) (Or.inl ⟨by rfl, ?_⟩) hHeld ?_
      rotate_left
      · intro w hSw
        go_simp <;> with_reducible rfl
      try simp only [Act.put, List.setIfInBounds_toArray, List.set_cons_zero, List.set_cons_succ]
      refine takeAt 13 (some 19) ?_ rfl rfl (by kernel_rfl) (by kernel_rfl) (by kernel_rfl) (fun _ _ _ h => h) (Or.inl ⟨by rfl, ?_⟩) hHeld ?_
      rotate_left
      · intro w hSw
        go_simp <;> with_reducible rfl
      try simp only [Act.put, List.setIfInBounds_toArray, List.set_cons_zero, List.set_cons_succ]
      refine takeAt 14 (some 20) ?_ rfl rfl (by kernel_rfl) (by kernel_rfl) (by kernel_rfl) (fun _ _ _ h => h) (Or.inl ⟨by rfl, ?_⟩) hHeld ?_
      rotate_left
      · intro w hSw
        go_simp <;> with_reducible rfl
      try simp only [Act.put, List.setIfInBounds_toArray, List.set_cons_zero, List.set_cons_succ]
      refine takeAt 15 (some 21) ?_ rfl rfl (by kernel_rfl) (by kernel_rfl) (by kernel_rfl) (fun _ _ _ h => h) (Or.inl ⟨by rfl, ?_⟩) hHeld ?_
      rotate_left
      · intro w hSw
        go_simp <;> with_reducible rfl
      try simp only [Act.put, List.setIfInBounds_toArray, List.set_cons_zero, List.set_cons_succ]
      refine takeAt 16 (some 22) ?_ rfl rfl (by kernel_rfl) (by kernel_rfl) (by kernel_rfl) (fun _ _ _ h => h) (Or.inl ⟨by rfl, ?_⟩) hHeld ?_
      rotate_left
      · intro w hSw
        go_simp <;> with_reducible rfl
      try simp only [Act.put, List.setIfInBounds_toArray, List.set_cons_zero, List.set_cons_succ]
      refine takeAt 17 (some 23) ?_ rfl rfl (by kernel_rfl) (by kernel_rfl) (by kernel_rfl) (fun _ _ _ h => h) (Or.inl ⟨by rfl, ?_⟩) hHeld ?_
      rotate_left
      · intro w hSw
        go_simp <;> with_reducible rfl
      try simp only [Act.put, List.setIfInBounds_toArray, List.set_cons_zero, List.set_cons_succ]
      refine takeAt 18 (some 24) ?_ rfl rfl (by kernel_rfl) (by kernel_rfl) (by kernel_rfl) (fun _ _ _ h => h) (Or.inl ⟨by rfl, ?_⟩) hHeld ?_
      rotate_left
      · intro w hSw
        go_simp <;> with_reducible rfl
      try simp only [Act.put, List.setIfInBounds_toArray, List.set_cons_zero, List.set_cons_succ]
      refine takeAt 19 (some 25) ?_ rfl rfl (by kernel_rfl) (by kernel_rfl) (by kernel_rfl) (fun _ _ _ h => h) (Or.inl ⟨by rfl, ?_⟩) hHeld ?_
      rotate_left
      · intro w hSw
        go_simp <;> with_reducible rfl
      try simp only [Act.put, List.setIfInBounds_toArray, List.set_cons_zero, List.set_cons_succ]
      refine takeAt 20 (some 26) ?_ rfl rfl (by kernel_rfl) (by kernel_rfl) (by kernel_rfl) (fun _ _ _ h => h) (Or.inl ⟨by rfl, ?_⟩) hHeld ?_
      rotate_left
      · intro w hSw
        go_simp <;> with_reducible rfl
      try simp only [Act.put, List.setIfInBounds_toArray, List.set_cons_zero, List.set_cons_succ]
      refine wpAnyH_ready (rs := [21]) (by kernel_rfl) (by simp) ?_
      refine AllReadyH.cons rfl (fun K hK => ?_) AllReadyH.nil
      rw [if_pos (by rfl)]
      refine call_stepV 27 34 (vals := #[.int .u8 (s[k].toNat : Int)]) rfl rfl rfl (by simp [Act.eval]) Tryz.func34 (by kernel_rfl) (by kernel_rfl) ?_
      refine Calls.mono (HC.out 1) ?_
      rintro e w2 ⟨rfl, kk⟩
      obtain ⟨xf, xp⟩ := HFJ.out w2 kk
      have HX : Hid (Fr (On b) w w2 ∧ Pc T s k m b w2) := ⟨xf, xp⟩
      clear xf xp kk
      refine ⟨_, rfl, ?_⟩
      refine hK.out _ _ ⟨HX.out.2.c0, HX.out.2.c1⟩ (fun hHeld => ?_)
      clear hK K
      try simp only [Act.put, List.setIfInBounds_toArray, List.set_cons_zero, List.set_cons_succ]
      refine takeAt 22 (some 28) ?_ rfl rfl (by kernel_rfl) (by kernel_rfl) (by kernel_rfl) (fun _ _ _ h => h) (Or.inl ⟨by rfl, ?_⟩) hHeld ?_
      rotate_left
      · intro w hSw
        go_simp <;> with_reducible rfl
      try simp only [Act.put, List.setIfInBounds_toArray, List.set_cons_zero, List.set_cons_succ]
      refine takeAt 23 (some 29) ?_ rfl rfl (by kernel_rfl) (by kernel_rfl) (by kernel_rfl) (fun _ _ _ h => h) (Or.inl ⟨by rfl, ?_⟩) hHeld ?_
      rotate_left
      · intro w hSw
        go_simp <;> with_reducible rfl
      try simp only [Act.put, List.setIfInBounds_toArray, List.set_cons_zero, List.set_cons_succ]
      refine wpAnyH_done (by kernel_rfl) ?_ _
      refine NoPanic.normal ?_
      clear HC HFJ c0 c1 hHeld
      go_wp2_with fail
      go_ret2
      exact ⟨rfl, HX.out⟩
set_option maxHeartbeats 8000000 in
theorem one_rgs (h : Pc T s k m b w) (hs : s.size ≤ 1000000) (hl : Lf s k l) :
    Calls Tryz.prog 33 #[.pointer (some ⟨b, 0, none⟩), .func (.func 77) #[] #[]] w fun e w' => e = .returned (.tuple #[.int .u8 ((((oneL rgsF l).1.map UInt8.toNat).getD 0 : Nat) : Int), .bool (oneL rgsF l).1.isSome]) ∧ Fr (On b) w w' ∧ Pc T s (s.size - (oneL rgsF l).2.length) m b w' := by
  cases l with
  | nil =>
    have e := hl.end_
    subst e
    have HE : Hid (∀ q, Fr (On b) w (w.drewN q) ∧ Pc T s s.size m b (w.drewN q)) := fun q => ⟨Fr.drewN _ _ q, h.kp (kp_drewN _ q)⟩
    have c0 := h.c0; have c1 := h.c1
    have hne : ((s.size : Int) == (s.size : Int)) = true := by simp
    clear h hl
    go_enter Tryz.func33, Tryz.ntmps33
    go_wp2_with fail
    go_quiet (fail)
    go_wp2_with fail
    go_ret2
    exact ⟨rfl, HE.out _⟩
  | cons a r =>
    obtain ⟨h1, h2, h3⟩ := hl.cons
    have c0 := h.c0; have c1 := h.c1
    have hne : ((k : Int) == (s.size : Int)) = false := by simp; omega
    have hb := byteAt_eq s k h1
    rw [h2] at hb
    have hp3 := h3.pos
    have hpl := hl.pos
    have HFJ : Hid (∀ w2, Kp w w2 → Fr (On b) w w2 ∧ Pc T s k m b w2) := fun w2 k2 => ⟨Fr.of_below k2, h.kp k2⟩
    cases hf : rgsF a.toNat with
    | true =>
      rw [oneL_yes hf]
      have HC : Hid (∀ q, Calls Tryz.prog 77 #[.int .u8 (s[k].toNat : Int)] (w.drewN q) fun e w' => e = .returned (.bool true) ∧ Kp w w') := fun q => by
        rw [← hb]
        refine (crgs_any a.toNat (w.drewN q)).mono ?_
        rintro e w' ⟨rfl, k⟩
        exact ⟨by show Ending.returned (Value.bool (rgsF a.toNat)) = _; rw [hf], kp_trans (kp_drewN _ q) k⟩
      have HB : Hid (a.toNat = s[k].toNat) := hb
      have hK : s.size - r.length = k + 1 := hp3.symm
      rw [hK]
      clear h hl h2 h3 hb hp3 hpl hf hK
      go_enter Tryz.func33, Tryz.ntmps33
      go_upto_region 1 with fail
      refine wp_region_noPanic ?_
      refine wp_region_held_drew (S := fun z => z.cell? ⟨b, 0, none⟩ = some (.string s) ∧ z.cell? ⟨b, 1, none⟩ = some (.int .i64 (k : Int))) (by kernel_rfl) (⟨kp_cell (kp_drew _) c0, kp_cell (kp_drew _) c1⟩) (fun hHeld => ?_)
      refine takeAt 0 (some 6) ?_ rfl rfl (by kernel_rfl) (by kernel_rfl) (by kernel_rfl) (fun _ _ _ h => h) (Or.inl ⟨by rfl, ?_⟩) hHeld ?_
      rotate_left
      · intro w hSw
        go_simp <;> with_reducible rfl
      try simp only [Act.put, List.setIfInBounds_toArray, List.set_cons_zero, List.set_cons_succ]
      refine takeAt 1 (some 7) ?_ rfl rfl (by kernel_rfl) (by kernel_rfl) (by kernel_rfl) (fun _ _ _ h => h) (Or.inl ⟨by rfl, ?_⟩) hHeld ?_
      rotate_left
      · intro w hSw
        go_simp <;> with_reducible rfl
      try simp only [Act.put, List.setIfInBounds_toArray, List.set_cons_zero, List.set_cons_succ]
      refine takeAt 2 (some 8) ?_ rfl rfl (by kernel_rfl) (by kernel_rfl) (by kernel_rfl) (fun _ _ _ h => h) (Or.inl ⟨by rfl, ?_⟩) hHeld ?_
      rotate_left
      · intro w hSw
        go_simp <;> with_reducible rfl
      try simp only [Act.put, List.setIfInBounds_toArray, List.set_cons_zero, List.set_cons_succ]
      refine takeAt 3 (some 9) ?_ rfl rfl (by kernel_rfl) (by kernel_rfl) (by kernel_rfl) (fun _ _ _ h => h) (Or.inl ⟨by rfl, ?_⟩) hHeld ?_
      rotate_left
      · intro w hSw
        go_simp <;> with_reducible rfl
      try simp only [Act.put, List.setIfInBounds_toArray, List.set_cons_zero, List.set_cons_succ]
      refine takeAt 4 (some 10) ?_ rfl rfl (by kernel_rfl) (by kernel_rfl) (by kernel_rfl) (fun _ _ _ h => h) (Or.inl ⟨by rfl, ?_⟩) hHeld ?_
      rotate_left
      · intro w hSw
        go_simp <;> with_reducible rfl
      try simp only [Act.put, List.setIfInBounds_toArray, List.set_cons_zero, List.set_cons_succ]
      refine takeAt 5 (some 11) ?_ rfl rfl (by kernel_rfl) (by kernel_rfl) (by kernel_rfl) (fun _ _ _ h => h) (Or.inl ⟨by rfl, ?_⟩) hHeld ?_
      rotate_left
      · intro w hSw
        go_simp <;> with_reducible rfl
      try simp only [Act.put, List.setIfInBounds_toArray, List.set_cons_zero, List.set_cons_succ]
      refine takeAt 6 (some 12) ?_ rfl rfl (by kernel_rfl) (by kernel_rfl) (by kernel_rfl) (fun _ _ _ h => h) (Or.inl ⟨by rfl, ?_⟩) hHeld ?_
      rotate_left
      · intro w hSw
        go_simp <;> with_reducible rfl
      try simp only [Act.put, List.setIfInBounds_toArray, List.set_cons_zero, List.set_cons_succ]
      refine takeAt 7 (some 13) ?_ rfl rfl (by kernel_rfl) (by kernel_rfl) (by kernel_rfl) (fun _ _ _ h => h) (Or.inl ⟨by rfl, ?_⟩) hHeld ?_
      rotate_left
      · intro w hSw
        go_simp <;> with_reducible rfl
      try simp only [Act.put, List.setIfInBounds_toArray, List.set_cons_zero, List.set_cons_succ]
      refine takeAt 8 (some 14) ?_ rfl rfl (by kernel_rfl) (by kernel_rfl) (by kernel_rfl) (fun _ _ _ h => h) (Or.inl ⟨by rfl, ?_⟩) hHeld ?_
      rotate_left
      · intro w hSw
        go_simp <;> with_reducible rfl
      try simp only [Act.put, List.setIfInBounds_toArray, List.set_cons_zero, List.set_cons_succ]
      refine takeAt 9 (some 15) ?_ rfl rfl (by kernel_rfl) (by kernel_rfl) (by kernel_rfl) (fun _ _ _ h => h) (Or.inl ⟨by rfl, ?_⟩) hHeld ?_
      rotate_left
      · intro w hSw
        go_simp <;> with_reducible rfl
      try simp only [Act.put, List.setIfInBounds_toArray, List.set_cons_zero, List.set_cons_succ]
      refine takeAt 10 (some 16) ?_ rfl rfl (by kernel_rfl) (by kernel_rfl) (by kernel_rfl) (fun _ _ _ h => h) (Or.inl ⟨by rfl, ?_⟩) hHeld ?_
      rotate_left
      · intro w hSw
        go_simp <;> with_reducible rfl
      try simp only [Act.put, List.setIfInBounds_toArray, List.set_cons_zero, List.set_cons_succ]
      refine takeAt 11 (some 17) ?_ rfl rfl (by kernel_rfl) (by kernel_rfl) (by kernel_rfl) (fun _ _ _ h => h) (Or.inl ⟨by rfl, ?_⟩) hHeld ?_
      rotate_left
      · intro w hSw
        go_simp <;> with_reducible rfl
      try simp only [Act.put, List.setIfInBounds_toArray, List.set_cons_zero, List.set_cons_succ]
      refine takeAt 12 (some 18) ?_ rfl rfl (by kernel_rfl) (by kernel_rfl) (by kernel_rfl) (fun _ _ _ h => h) (Or.inl ⟨by rfl, ?_⟩) hHeld ?_
      rotate_left
      · intro w hSw
        go_simp <;> with_reducible rfl
      try simp only [Act.put, List.setIfInBounds_toArray, List.set_cons_zero, List.set_cons_succ]
      refine takeAt 13 (some 19) ?_ rfl rfl (by kernel_rfl) (by kernel_rfl) (by kernel_rfl) (fun _ _ _ h => h) (Or.inl ⟨by rfl, ?_⟩) hHeld ?_
      rotate_left
      · intro w hSw
        go_simp <;> with_reducible rfl
      try simp only [Act.put, List.setIfInBounds_toArray, List.set_cons_zero, List.set_cons_succ]
      refine takeAt 14 (some 20) ?_ rfl rfl (by kernel_rfl) (by kernel_rfl) (by kernel_rfl) (fun _ _ _ h => h) (Or.inl ⟨by rfl, ?_⟩) hHeld ?_
      rotate_left
      · intro w hSw
        go_simp <;> with_reducible rfl
      try simp only [Act.put, List.setIfInBounds_toArray, List.set_cons_zero, List.set_cons_succ]
      refine takeAt 15 (some 21) ?_ rfl rfl (by kernel_rfl) (by kernel_rfl) (by kernel_rfl) (fun _ _ _ h => h) (Or.inl ⟨by rfl, ?_⟩) hHeld ?_
      rotate_left
      · intro w hSw
        go_simp <;> with_reducible rfl
      try simp only [Act.put, List.setIfInBounds_toArray, List.set_cons_zero, List.set_cons_succ]
      refine takeAt 16 (some 22) ?_ rfl rfl (by kernel_rfl) (by kernel_rfl) (by kernel_rfl) (fun _ _ _ h => h) (Or.inl ⟨by rfl, ?_⟩) hHeld ?_
      rotate_left
      · intro w hSw
        go_simp <;> with_reducible rfl
      try simp only [Act.put, List.setIfInBounds_toArray, List.set_cons_zero, List.set_cons_succ]
      refine takeAt 17 (some 23) ?_ rfl rfl (by kernel_rfl) (by kernel_rfl) (by kernel_rfl) (fun _ _ _ h => h) (Or.inl ⟨by rfl, ?_⟩) hHeld ?_
      rotate_left
      · intro w hSw
        go_simp <;> with_reducible rfl
      try simp only [Act.put, List.setIfInBounds_toArray, List.set_cons_zero, List.set_cons_succ]
      refine takeAt 18 (some 24) ?_ rfl rfl (by kernel_rfl) (by kernel_rfl) (by kernel_rfl) (fun _ _ _ h => h) (Or.inl ⟨by rfl, ?_⟩) hHeld ?_
      rotate_left
      · intro w hSw
        go_simp <;> with_reducible rfl
      try simp only [Act.put, List.setIfInBounds_toArray, List.set_cons_zero, List.set_cons_succ]
      refine takeAt 19 (some 25) ?_ rfl rfl (by kernel_rfl) (by kernel_rfl) (by kernel_rfl) (fun _ _ _ h => h) (Or.inl ⟨by rfl, ?_⟩) hHeld ?_
      rotate_left
      · intro w hSw
        go_simp <;> with_reducible rfl
      try simp only [Act.put, List.setIfInBounds_toArray, List.set_cons_zero, List.set_cons_succ]
      refine takeAt 20 (some 26) ?_ rfl rfl (by kernel_rfl) (by kernel_rfl) (by kernel_rfl) (fun _ _ _ h => h) (Or.inl ⟨by rfl, ?_⟩) hHeld ?_
      rotate_left
      · intro w hSw
        go_simp <;> with_reducible rfl
      try simp only [Act.put, List.setIfInBounds_toArray, List.set_cons_zero, List.set_cons_succ]
      refine wpAnyH_ready (rs := [21]) (by kernel_rfl) (by simp) ?_
      refine AllReadyH.cons rfl (fun K hK => ?_) AllReadyH.nil
      rw [if_pos (by rfl)]
      refine call_stepV 27 77 (vals := #[.int .u8 (s[k].toNat : Int)]) rfl rfl rfl (by simp [Act.eval]) Tryz.func77 (by kernel_rfl) (by kernel_rfl) ?_
      refine Calls.mono (HC.out 1) ?_
      rintro e w2 ⟨rfl, kk⟩
      obtain ⟨xf, xp⟩ := HFJ.out w2 kk
      have HX : Hid (Fr (On b) w w2 ∧ Pc T s k m b w2) := ⟨xf, xp⟩
      clear xf xp kk
      refine ⟨_, rfl, ?_⟩
      refine hK.out _ _ ⟨HX.out.2.c0, HX.out.2.c1⟩ (fun hHeld => ?_)
      clear hK K
      try simp only [Act.put, List.setIfInBounds_toArray, List.set_cons_zero, List.set_cons_succ]
      refine takeAt 22 (some 28) ?_ rfl rfl (by kernel_rfl) (by kernel_rfl) (by kernel_rfl) (fun _ _ _ h => h) (Or.inl ⟨by rfl, ?_⟩) hHeld ?_
      rotate_left
      · intro w hSw
        go_simp <;> with_reducible rfl
      try simp only [Act.put, List.setIfInBounds_toArray, List.set_cons_zero, List.set_cons_succ]
      refine takeAt 23 (some 29) ?_ rfl rfl (by kernel_rfl) (by kernel_rfl) (by kernel_rfl) (fun _ _ _ h => h) (Or.inl ⟨by rfl, ?_⟩) hHeld ?_
      rotate_left
      · intro w hSw
        go_simp <;> with_reducible rfl
      try simp only [Act.put, List.setIfInBounds_toArray, List.set_cons_zero, List.set_cons_succ]
      refine wpAnyH_done (by kernel_rfl) ?_ _
      refine NoPanic.normal ?_
      clear HC HFJ c0 c1 hHeld
      have c0 := HX.out.2.c0
      have c1 := HX.out.2.c1
      have f1 := HX.out.2.f1
      go_upto_region 4 with fail
      have HY : Hid (∀ q, Fr (On b) w ((w2.setCell ⟨b, 1, none⟩ (.int .i64 ((k : Int) + 1))).drewN q) ∧ Pc T s (k + 1) m b ((w2.setCell ⟨b, 1, none⟩ (.int .i64 ((k : Int) + 1))).drewN q)) := fun q =>
        ⟨(HX.out.1.trans (fr_set _ _ _ _)).trans (Fr.drewN _ _ q), (HX.out.2.to (k + 1)).kp (kp_drewN _ q)⟩
      clear HX
      go_quiet (fail)
      go_wp2_with fail
      go_ret2
      exact ⟨by show Ending.returned (.tuple #[.int .u8 (s[k].toNat : Int), .bool true]) = Ending.returned (.tuple #[.int .u8 (a.toNat : Int), .bool true]); rw [HB.out], HY.out _⟩
    | false =>
      rw [oneL_no hf]
      have HC : Hid (∀ q, Calls Tryz.prog 77 #[.int .u8 (s[k].toNat : Int)] (w.drewN q) fun e w' => e = .returned (.bool false) ∧ Kp w w') := fun q => by
        rw [← hb]
        refine (crgs_any a.toNat (w.drewN q)).mono ?_
        rintro e w' ⟨rfl, k⟩
        exact ⟨by show Ending.returned (Value.bool (rgsF a.toNat)) = _; rw [hf], kp_trans (kp_drewN _ q) k⟩
      have hK : s.size - (a :: r).length = k := hpl.symm
      rw [hK]
      clear h hl h2 h3 hb hp3 hpl hf hK
      go_enter Tryz.func33, Tryz.ntmps33
      go_upto_region 1 with fail
      refine wp_region_noPanic ?_
      refine wp_region_held_drew (S := fun z => z.cell? ⟨b, 0, none⟩ = some (.string s) ∧ z.cell? ⟨b, 1, none⟩ = some (.int .i64 (k : Int))) (by kernel_rfl) (⟨kp_cell (kp_drew _) c0, kp_cell (kp_drew _) c1⟩) (fun hHeld => ?_)
      refine takeAt 0 (some 6) ?_ rfl rfl (by kernel_rfl) (by kernel_rfl) (by kernel_rfl) (fun _ _ _ h => h) (Or.inl ⟨by rfl, ?_⟩) hHeld ?_
      rotate_left
      · intro w hSw
        go_simp <;> with_reducible rfl
      try simp only [Act.put, List.setIfInBounds_toArray, List.set_cons_zero, List.set_cons_succ]
      refine takeAt 1 (some 7) ?_ rfl rfl (by kernel_rfl) (by kernel_rfl) (by kernel_rfl) (fun _ _ _ h => h) (Or.inl ⟨by rfl, ?_⟩) hHeld ?_
      rotate_left
      · intro w hSw
        go_simp <;> with_reducible rfl
      try simp only [Act.put, List.setIfInBounds_toArray, List.set_cons_zero, List.set_cons_succ]
      refine takeAt 2 (some 8) ?_ rfl rfl (by kernel_rfl) (by kernel_rfl) (by kernel_rfl) (fun _ _ _ h => h) (Or.inl ⟨by rfl, ?_⟩) hHeld ?_
      rotate_left
      · intro w hSw
        go_simp <;> with_reducible rfl
      try simp only [Act.put, List.setIfInBounds_toArray, List.set_cons_zero, List.set_cons_succ]
      refine takeAt 3 (some 9) ?_ rfl rfl (by kernel_rfl) (by kernel_rfl) (by kernel_rfl) (fun _ _ _ h => h) (Or.inl ⟨by rfl, ?_⟩) hHeld ?_
      rotate_left
      · intro w hSw
        go_simp <;> with_reducible rfl
      try simp only [Act.put, List.setIfInBounds_toArray, List.set_cons_zero, List.set_cons_succ]
      refine takeAt 4 (some 10) ?_ rfl rfl (by kernel_rfl) (by kernel_rfl) (by kernel_rfl) (fun _ _ _ h => h) (Or.inl ⟨by rfl, ?_⟩) hHeld ?_
      rotate_left
      · intro w hSw
        go_simp <;> with_reducible rfl
      try simp only [Act.put, List.setIfInBounds_toArray, List.set_cons_zero, List.set_cons_succ]
      refine takeAt 5 (some 11) ?_ rfl rfl (by kernel_rfl) (by kernel_rfl) (by kernel_rfl) (fun _ _ _ h => h) (Or.inl ⟨by rfl, ?_⟩) hHeld ?_
      rotate_left
      · intro w hSw
        go_simp <;> with_reducible rfl
      try simp only [Act.put, List.setIfInBounds_toArray, List.set_cons_zero, List.set_cons_succ]
      refine takeAt 6 (some 12) ?_ rfl rfl (by kernel_rfl) (by kernel_rfl) (by kernel_rfl) (fun _ _ _ h => h) (Or.inl ⟨by rfl, ?_⟩) hHeld ?_
      rotate_left
      · intro w hSw
        go_simp <;> with_reducible rfl
      try simp only [Act.put, List.setIfInBounds_toArray, List.set_cons_zero, List.set_cons_succ]
      refine takeAt 7 (some 13) ?_ rfl rfl (by kernel_rfl) (by kernel_rfl) (by kernel_rfl) (fun _ _ _ h => h) (Or.inl ⟨by rfl, ?_⟩) hHeld ?_
      rotate_left
      · intro w hSw
        go_simp <;> with_reducible rfl
      try simp only [Act.put, List.setIfInBounds_toArray, List.set_cons_zero, List.set_cons_succ]
      refine takeAt 8 (some 14) ?_ rfl rfl (by kernel_rfl) (by kernel_rfl) (by kernel_rfl) (fun _ _ _ h => h) (Or.inl ⟨by rfl, ?_⟩) hHeld ?_
      rotate_left
      · intro w hSw
        go_simp <;> with_reducible rfl
      try simp only [Act.put, List.setIfInBounds_toArray, List.set_cons_zero, List.set_cons_succ]
      refine takeAt 9 (some 15) ?_ rfl rfl (by kernel_rfl) (by kernel_rfl) (by kernel_rfl) (fun _ _ _ h => h) (Or.inl ⟨by rfl, ?_⟩) hHeld ?_
      rotate_left
      · intro w hSw
        go_simp <;> with_reducible rfl
      try simp only [Act.put, List.setIfInBounds_toArray, List.set_cons_zero, List.set_cons_succ]
      refine takeAt 10 (some 16) ?_ rfl rfl (by kernel_rfl) (by kernel_rfl) (by kernel_rfl) (fun _ _ _ h => h) (Or.inl ⟨by rfl, ?_⟩) hHeld ?_
      rotate_left
      · intro w hSw
        go_simp <;> with_reducible rfl
      try simp only [Act.put, List.setIfInBounds_toArray, List.set_cons_zero, List.set_cons_succ]
      refine takeAt 11 (some 17) ?_ rfl rfl (by kernel_rfl) (by kernel_rfl) (by kernel_rfl) (fun _ _ _ h => h) (Or.inl ⟨by rfl, ?_⟩) hHeld ?_
      rotate_left
      · intro w hSw
        go_simp <;> with_reducible rfl
      try simp only [Act.put, List.setIfInBounds_toArray, List.set_cons_zero, List.set_cons_succ]
      refine takeAt 12 (some 18) ?_ rfl rfl (by kernel_rfl) (by kernel_rfl) (by kernel_rfl) (fun _ _ _ h => h) (Or.inl ⟨by rfl, ?_⟩) hHeld ?_
      rotate_left
      · intro w hSw
        go_simp <;> with_reducible rfl
      try simp only [Act.put, List.setIfInBounds_toArray, List.set_cons_zero, List.set_cons_succ]
      refine takeAt 13 (some 19) ?_ rfl rfl (by kernel_rfl) (by kernel_rfl) (by kernel_rfl) (fun _ _ _ h => h) (Or.inl ⟨by rfl, ?_⟩) hHeld ?_
      rotate_left
      · intro w hSw
        go_simp <;> with_reducible rfl
      try simp only [Act.put, List.setIfInBounds_toArray, List.set_cons_zero, List.set_cons_succ]
      refine takeAt 14 (some 20) ?_ rfl rfl (by kernel_rfl) (by kernel_rfl) (by kernel_rfl) (fun _ _ _ h => h) (Or.inl ⟨by rfl, ?_⟩) hHeld ?_
      rotate_left
      · intro w hSw
        go_simp <;> with_reducible rfl
      try simp only [Act.put, List.setIfInBounds_toArray, List.set_cons_zero, List.set_cons_succ]
      refine takeAt 15 (some 21) ?_ rfl rfl (by kernel_rfl) (by kernel_rfl) (by kernel_rfl) (fun _ _ _ h => h) (Or.inl ⟨by rfl, ?_⟩) hHeld ?_
      rotate_left
      · intro w hSw
        go_simp <;> with_reducible rfl
      try simp only [Act.put, List.setIfInBounds_toArray, List.set_cons_zero, List.set_cons_succ]
      refine takeAt 16 (some 22) ?_ rfl rfl (by kernel_rfl) (by kernel_rfl) (by kernel_rfl) (fun _ _ _ h => h) (Or.inl ⟨by rfl, ?_⟩) hHeld ?_
      rotate_left
      · intro w hSw
        go_simp <;> with_reducible rfl
      try simp only [Act.put, List.setIfInBounds_toArray, List.set_cons_zero, List.set_cons_succ]
      refine takeAt 17 (some 23) ?_ rfl rfl (by kernel_rfl) (by kernel_rfl) (by kernel_rfl) (fun _ _ _ h => h) (Or.inl ⟨by rfl, ?_⟩) hHeld ?_
      rotate_left
      · intro w hSw
        go_simp <;> with_reducible rfl
      try simp only [Act.put, List.setIfInBounds_toArray, List.set_cons_zero, List.set_cons_succ]
      refine takeAt 18 (some 24) ?_ rfl rfl (by kernel_rfl) (by kernel_rfl) (by kernel_rfl) (fun _ _ _ h => h) (Or.inl ⟨by rfl, ?_⟩) hHeld ?_
      rotate_left
      · intro w hSw
        go_simp <;> with_reducible rfl
      try simp only [Act.put, List.setIfInBounds_toArray, List.set_cons_zero, List.set_cons_succ]
      refine takeAt 19 (some 25) ?_ rfl rfl (by kernel_rfl) (by kernel_rfl) (by kernel_rfl) (fun _ _ _ h => h) (Or.inl ⟨by rfl, ?_⟩) hHeld ?_
      rotate_left
      · intro w hSw
        go_simp <;> with_reducible rfl
      try simp only [Act.put, List.setIfInBounds_toArray, List.set_cons_zero, List.set_cons_succ]
      refine takeAt 20 (some 26) ?_ rfl rfl (by kernel_rfl) (by kernel_rfl) (by kernel_rfl) (fun _ _ _ h => h) (Or.inl ⟨by rfl, ?_⟩) hHeld ?_
      rotate_left
      · intro w hSw
        go_simp <;> with_reducible rfl
      try simp only [Act.put, List.setIfInBounds_toArray, List.set_cons_zero, List.set_cons_succ]
      refine wpAnyH_ready (rs := [21]) (by kernel_rfl) (by simp) ?_
      refine AllReadyH.cons rfl (fun K hK => ?_) AllReadyH.nil
      rw [if_pos (by rfl)]
      refine call_stepV 27 77 (vals := #[.int .u8 (s[k].toNat : Int)]) rfl rfl rfl (by simp [Act.eval]) Tryz.func77 (by kernel_rfl) (by kernel_rfl) ?_
      refine Calls.mono (HC.out 1) ?_
      rintro e w2 ⟨rfl, kk⟩
      obtain ⟨xf, xp⟩ := HFJ.out w2 kk
      have HX : Hid (Fr (On b) w w2 ∧ Pc T s k m b w2) := ⟨xf, xp⟩
      clear xf xp kk
      refine ⟨_, rfl, ?_⟩
      refine hK.out _ _ ⟨HX.out.2.c0, HX.out.2.c1⟩ (fun hHeld => ?_)
      clear hK K
      try simp only [Act.put, List.setIfInBounds_toArray, List.set_cons_zero, List.set_cons_succ]
      refine takeAt 22 (some 28) ?_ rfl rfl (by kernel_rfl) (by kernel_rfl) (by kernel_rfl) (fun _ _ _ h => h) (Or.inl ⟨by rfl, ?_⟩) hHeld ?_
      rotate_left
      · intro w hSw
        go_simp <;> with_reducible rfl
      try simp only [Act.put, List.setIfInBounds_toArray, List.set_cons_zero, List.set_cons_succ]
      refine takeAt 23 (some 29) ?_ rfl rfl (by kernel_rfl) (by kernel_rfl) (by kernel_rfl) (fun _ _ _ h => h) (Or.inl ⟨by rfl, ?_⟩) hHeld ?_
      rotate_left
      · intro w hSw
        go_simp <;> with_reducible rfl
      try simp only [Act.put, List.setIfInBounds_toArray, List.set_cons_zero, List.set_cons_succ]
      refine wpAnyH_done (by kernel_rfl) ?_ _
      refine NoPanic.normal ?_
      clear HC HFJ c0 c1 hHeld
      go_wp2_with fail
      go_ret2
      exact ⟨rfl, HX.out⟩
set_option maxHeartbeats 8000000 in
theorem one_any (h : Pc T s k m b w) (hs : s.size ≤ 1000000) (hl : Lf s k l) :
    Calls Tryz.prog 33 #[.pointer (some ⟨b, 0, none⟩), .func (.func 78) #[] #[]] w fun e w' => e = .returned (.tuple #[.int .u8 ((((oneL anyF l).1.map UInt8.toNat).getD 0 : Nat) : Int), .bool (oneL anyF l).1.isSome]) ∧ Fr (On b) w w' ∧ Pc T s (s.size - (oneL anyF l).2.length) m b w' := by
  cases l with
  | nil =>
    have e := hl.end_
    subst e
    have HE : Hid (∀ q, Fr (On b) w (w.drewN q) ∧ Pc T s s.size m b (w.drewN q)) := fun q => ⟨Fr.drewN _ _ q, h.kp (kp_drewN _ q)⟩
    have c0 := h.c0; have c1 := h.c1
    have hne : ((s.size : Int) == (s.size : Int)) = true := by simp
    clear h hl
    go_enter Tryz.func33, Tryz.ntmps33
    go_wp2_with fail
    go_quiet (fail)
    go_wp2_with fail
    go_ret2
    exact ⟨rfl, HE.out _⟩
  | cons a r =>
    obtain ⟨h1, h2, h3⟩ := hl.cons
    have c0 := h.c0; have c1 := h.c1
    have hne : ((k : Int) == (s.size : Int)) = false := by simp; omega
    have hb := byteAt_eq s k h1
    rw [h2] at hb
    have hp3 := h3.pos
    have hpl := hl.pos
    have HFJ : Hid (∀ w2, Kp w w2 → Fr (On b) w w2 ∧ Pc T s k m b w2) := fun w2 k2 => ⟨Fr.of_below k2, h.kp k2⟩
    cases hf : anyF a.toNat with
    | true =>
      rw [oneL_yes hf]
      have HC : Hid (∀ q, Calls Tryz.prog 78 #[.int .u8 (s[k].toNat : Int)] (w.drewN q) fun e w' => e = .returned (.bool true) ∧ Kp w w') := fun q => by
        rw [← hb]
        refine (cany_any (a.toNat : Int) (w.drewN q)).mono ?_
        rintro e w' ⟨rfl, k⟩
        exact ⟨by show Ending.returned (Value.bool (anyF a.toNat)) = _; rw [hf], kp_trans (kp_drewN _ q) k⟩
      have HB : Hid (a.toNat = s[k].toNat) := hb
      have hK : s.size - r.length = k + 1 := hp3.symm
      rw [hK]
      clear h hl h2 h3 hb hp3 hpl hf hK
      go_enter Tryz.func33, Tryz.ntmps33
      go_upto_region 1 with fail
      refine wp_region_noPanic ?_
      refine wp_region_held_drew (S := fun z => z.cell? ⟨b, 0, none⟩ = some (.string s) ∧ z.cell? ⟨b, 1, none⟩ = some (.int .i64 (k : Int))) (by kernel_rfl) (⟨kp_cell (kp_drew _) c0, kp_cell (kp_drew _) c1⟩) (fun hHeld => ?_)
      refine takeAt 0 (some 6) ?_ rfl rfl (by kernel_rfl) (by kernel_rfl) (by kernel_rfl) (fun _ _ _ h => h) (Or.inl ⟨by rfl, ?_⟩) hHeld ?_
      rotate_left
      · intro w hSw
        go_simp <;> with_reducible rfl
      try simp only [Act.put, List.setIfInBounds_toArray, List.set_cons_zero, List.set_cons_succ]
      refine takeAt 1 (some 7) ?_ rfl rfl (by kernel_rfl) (by kernel_rfl) (by kernel_rfl) (fun _ _ _ h => h) (Or.inl ⟨by rfl, ?_⟩) hHeld ?_
      rotate_left
      · intro w hSw
        go_simp <;> with_reducible rfl
      try simp only [Act.put, List.setIfInBounds_toArray, List.set_cons_zero, List.set_cons_succ]
      refine takeAt 2 (some 8) ?_ rfl rfl (by kernel_rfl) (by kernel_rfl) (by kernel_rfl) (fun _ _ _ h => h) (Or.inl ⟨by rfl, ?_⟩) hHeld ?_
      rotate_left
      · intro w hSw
        go_simp <;> with_reducible rfl
      try simp only [Act.put, List.setIfInBounds_toArray, List.set_cons_zero, List.set_cons_succ]
      refine takeAt 3 (some 9) ?_ rfl rfl (by kernel_rfl) (by kernel_rfl) (by kernel_rfl) (fun _ _ _ h => h) (Or.inl ⟨by rfl, ?_⟩) hHeld ?_
      rotate_left
      · intro w hSw
        go_simp <;> with_reducible rfl
      try simp only [Act.put, List.setIfInBounds_toArray, List.set_cons_zero, List.set_cons_succ]
      refine takeAt 4 (some 10) ?_ rfl rfl (by kernel_rfl) (by kernel_rfl) (by kernel_rfl) (fun _ _ _ h => h) (Or.inl ⟨by rfl, ?_⟩) hHeld ?_
      rotate_left
      · intro w hSw
        go_simp <;> with_reducible rfl
      try simp only [Act.put, List.setIfInBounds_toArray, List.set_cons_zero, List.set_cons_succ]
      refine takeAt 5 (some 11) ?_ rfl rfl (by kernel_rfl) (by kernel_rfl) (by kernel_rfl) (fun _ _ _ h => h) (Or.inl ⟨by rfl, ?_⟩) hHeld ?_
      rotate_left
      · intro w hSw
        go_simp <;> with_reducible rfl
      try simp only [Act.put, List.setIfInBounds_toArray, List.set_cons_zero, List.set_cons_succ]
      refine takeAt 6 (some 12) ?_ rfl rfl (by kernel_rfl) (by kernel_rfl) (by kernel_rfl) (fun _ _ _ h => h) (Or.inl ⟨by rfl, ?_⟩) hHeld ?_
      rotate_left
      · intro w hSw
        go_simp <;> with_reducible rfl
      try simp only [Act.put, List.setIfInBounds_toArray, List.set_cons_zero, List.set_cons_succ]
      refine takeAt 7 (some 13) ?_ rfl rfl (by kernel_rfl) (by kernel_rfl) (by kernel_rfl) (fun _ _ _ h => h) (Or.inl ⟨by rfl, ?_⟩) hHeld ?_
      rotate_left
      · intro w hSw
        go_simp <;> with_reducible rfl
      try simp only [Act.put, List.setIfInBounds_toArray, List.set_cons_zero, List.set_cons_succ]
      refine takeAt 8 (some 14) ?_ rfl rfl (by kernel_rfl) (by kernel_rfl) (by kernel_rfl) (fun _ _ _ h => h) (Or.inl ⟨by rfl, ?_⟩) hHeld ?_
      rotate_left
      · intro w hSw
        go_simp <;> with_reducible rfl
      try simp only [Act.put, List.setIfInBounds_toArray, List.set_cons_zero, List.set_cons_succ]
      refine takeAt 9 (some 15) ?_ rfl rfl (by kernel_rfl) (by kernel_rfl) (by kernel_rfl) (fun _ _ _ h => h) (Or.inl ⟨by rfl, ?_⟩) hHeld ?_
      rotate_left
      · intro w hSw
        go_simp <;> with_reducible rfl
      try simp only [Act.put, List.setIfInBounds_toArray, List.set_cons_zero, List.set_cons_succ]
      refine takeAt 10 (some 16) ?_ rfl rfl (by kernel_rfl) (by kernel_rfl) (by kernel_rfl) (fun _ _ _ h => h) (Or.inl ⟨by rfl, ?_⟩) hHeld ?_
      rotate_left
      · intro w hSw
        go_simp <;> with_reducible rfl
      try simp only [Act.put, List.setIfInBounds_toArray, List.set_cons_zero, List.set_cons_succ]
      refine takeAt 11 (some 17) ?_ rfl rfl (by kernel_rfl) (by kernel_rfl) (by kernel_rfl) (fun _ _ _ h => h) (Or.inl ⟨by rfl, ?_⟩) hHeld ?_
      rotate_left
      · intro w hSw
        go_simp <;> with_reducible rfl
      try simp only [Act.put, List.setIfInBounds_toArray, List.set_cons_zero, List.set_cons_succ]
      refine takeAt 12 (some 18) ?_ rfl rfl (by kernel_rfl) (by kernel_rfl) (by kernel_rfl) (fun _ _ _ h => h) (Or.inl ⟨by rfl, ?_⟩) hHeld ?_
      rotate_left
      · intro w hSw
        go_simp <;> with_reducible rfl
      try simp only [Act.put, List.setIfInBounds_toArray, List.set_cons_zero, List.set_cons_succ]
      refine takeAt 13 (some 19) ?_ rfl rfl (by kernel_rfl) (by kernel_rfl) (by kernel_rfl) (fun _ _ _ h => h) (Or.inl ⟨by rfl, ?_⟩) hHeld ?_
      rotate_left
      · intro w hSw
        go_simp <;> with_reducible rfl
      try simp only [Act.put, List.setIfInBounds_toArray, List.set_cons_zero, List.set_cons_succ]
      refine takeAt 14 (some 20) ?_ rfl rfl (by kernel_rfl) (by kernel_rfl) (by kernel_rfl) (fun _ _ _ h => h) (Or.inl ⟨by rfl, ?_⟩) hHeld ?_
      rotate_left
      · intro w hSw
        go_simp <;> with_reducible rfl
      try simp only [Act.put, List.setIfInBounds_toArray, List.set_cons_zero, List.set_cons_succ]
      refine takeAt 15 (some 21) ?_ rfl rfl (by kernel_rfl) (by kernel_rfl) (by kernel_rfl) (fun _ _ _ h => h) (Or.inl ⟨by rfl, ?_⟩) hHeld ?_
      rotate_left
      · intro w hSw
        go_simp <;> with_reducible rfl
      try simp only [Act.put, List.setIfInBounds_toArray, List.set_cons_zero, List.set_cons_succ]
      refine takeAt 16 (some 22) ?_ rfl rfl (by kernel_rfl) (by kernel_rfl) (by kernel_rfl) (fun _ _ _ h => h) (Or.inl ⟨by rfl, ?_⟩) hHeld ?_
      rotate_left
      · intro w hSw
        go_simp <;> with_reducible rfl
      try simp only [Act.put, List.setIfInBounds_toArray, List.set_cons_zero, List.set_cons_succ]
      refine takeAt 17 (some 23) ?_ rfl rfl (by kernel_rfl) (by kernel_rfl) (by kernel_rfl) (fun _ _ _ h => h) (Or.inl ⟨by rfl, ?_⟩) hHeld ?_
      rotate_left
      · intro w hSw
        go_simp <;> with_reducible rfl
      try simp only [Act.put, List.setIfInBounds_toArray, List.set_cons_zero, List.set_cons_succ]
      refine takeAt 18 (some 24) ?_ rfl rfl (by kernel_rfl) (by kernel_rfl) (by kernel_rfl) (fun _ _ _ h => h) (Or.inl ⟨by rfl, ?_⟩) hHeld ?_
      rotate_left
      · intro w hSw
        go_simp <;> with_reducible rfl
      try simp only [Act.put, List.setIfInBounds_toArray, List.set_cons_zero, List.set_cons_succ]
      refine takeAt 19 (some 25) ?_ rfl rfl (by kernel_rfl) (by kernel_rfl) (by kernel_rfl) (fun _ _ _ h => h) (Or.inl ⟨by rfl, ?_⟩) hHeld ?_
      rotate_left
      · intro w hSw
        go_simp <;> with_reducible rfl
      try simp only [Act.put, List.setIfInBounds_toArray, List.set_cons_zero, List.set_cons_succ]
      refine takeAt 20 (some 26) ?_ rfl rfl (by kernel_rfl) (by kernel_rfl) (by kernel_rfl) (fun _ _ _ h => h) (Or.inl ⟨by rfl, ?_⟩) hHeld ?_
      rotate_left
      · intro w hSw
        go_simp <;> with_reducible rfl
      try simp only [Act.put, List.setIfInBounds_toArray, List.set_cons_zero, List.set_cons_succ]
      refine wpAnyH_ready (rs := [21]) (by kernel_rfl) (by simp) ?_
      refine AllReadyH.cons rfl (fun K hK => ?_) AllReadyH.nil
      rw [if_pos (by rfl)]
      refine call_stepV 27 78 (vals := #[.int .u8 (s[k].toNat : Int)]) rfl rfl rfl (by simp [Act.eval]) Tryz.func78 (by kernel_rfl) (by kernel_rfl) ?_
      refine Calls.mono (HC.out 1) ?_
      rintro e w2 ⟨rfl, kk⟩
      obtain ⟨xf, xp⟩ := HFJ.out w2 kk
      have HX : Hid (Fr (On b) w w2 ∧ Pc T s k m b w2) := ⟨xf, xp⟩
      clear xf xp kk
      refine ⟨_, rfl, ?_⟩
      refine hK.out _ _ ⟨HX.out.2.c0, HX.out.2.c1⟩ (fun hHeld => ?_)
      clear hK K
      try simp only [Act.put, List.setIfInBounds_toArray, List.set_cons_zero, List.set_cons_succ]
      refine takeAt 22 (some 28) ?_ rfl rfl (by kernel_rfl) (by kernel_rfl) (by kernel_rfl) (fun _ _ _ h => h) (Or.inl ⟨by rfl, ?_⟩) hHeld ?_
      rotate_left
      · intro w hSw
        go_simp <;> with_reducible rfl
      try simp only [Act.put, List.setIfInBounds_toArray, List.set_cons_zero, List.set_cons_succ]
      refine takeAt 23 (some 29) ?_ rfl rfl (by kernel_rfl) (by kernel_rfl) (by kernel_rfl) (fun _ _ _ h => h) (Or.inl ⟨by rfl, ?_⟩) hHeld ?_
      rotate_left
      · intro w hSw
        go_simp <;> with_reducible rfl
      try simp only [Act.put, List.setIfInBounds_toArray, List.set_cons_zero, List.set_cons_succ]
      refine wpAnyH_done (by kernel_rfl) ?_ _
      refine NoPanic.normal ?_
      clear HC HFJ c0 c1 hHeld
      have c0 := HX.out.2.c0
      have c1 := HX.out.2.c1
      have f1 := HX.out.2.f1
      go_upto_region 4 with fail
      have HY : Hid (∀ q, Fr (On b) w ((w2.setCell ⟨b, 1, none⟩ (.int .i64 ((k : Int) + 1))).drewN q) ∧ Pc T s (k + 1) m b ((w2.setCell ⟨b, 1, none⟩ (.int .i64 ((k : Int) + 1))).drewN q)) := fun q =>
        ⟨(HX.out.1.trans (fr_set _ _ _ _)).trans (Fr.drewN _ _ q), (HX.out.2.to (k + 1)).kp (kp_drewN _ q)⟩
      clear HX
      go_quiet (fail)
      go_wp2_with fail
      go_ret2
      exact ⟨by show Ending.returned (.tuple #[.int .u8 (s[k].toNat : Int), .bool true]) = Ending.returned (.tuple #[.int .u8 (a.toNat : Int), .bool true]); rw [HB.out], HY.out _⟩
    | false =>
      rw [oneL_no hf]
      have HC : Hid (∀ q, Calls Tryz.prog 78 #[.int .u8 (s[k].toNat : Int)] (w.drewN q) fun e w' => e = .returned (.bool false) ∧ Kp w w') := fun q => by
        rw [← hb]
        refine (cany_any (a.toNat : Int) (w.drewN q)).mono ?_
        rintro e w' ⟨rfl, k⟩
        exact ⟨by show Ending.returned (Value.bool (anyF a.toNat)) = _; rw [hf], kp_trans (kp_drewN _ q) k⟩
      have hK : s.size - (a :: r).length = k := hpl.symm
      rw [hK]
      clear h hl h2 h3 hb hp3 hpl hf hK
      go_enter Tryz.func33, Tryz.ntmps33
      go_upto_region 1 with fail
      refine wp_region_noPanic ?_
      refine wp_region_held_drew (S := fun z => z.cell? ⟨b, 0, none⟩ = some (.string s) ∧ z.cell? ⟨b, 1, none⟩ = some (.int .i64 (k : Int))) (by kernel_rfl) (⟨kp_cell (kp_drew _) c0, kp_cell (kp_drew _) c1⟩) (fun hHeld => ?_)
      refine takeAt 0 (some 6) ?_ rfl rfl (by kernel_rfl) (by kernel_rfl) (by kernel_rfl) (fun _ _ _ h => h) (Or.inl ⟨by rfl, ?_⟩) hHeld ?_
      rotate_left
      · intro w hSw
        go_simp <;> with_reducible rfl
      try simp only [Act.put, List.setIfInBounds_toArray, List.set_cons_zero, List.set_cons_succ]
      refine takeAt 1 (some 7) ?_ rfl rfl (by kernel_rfl) (by kernel_rfl) (by kernel_rfl) (fun _ _ _ h => h) (Or.inl ⟨by rfl, ?_⟩) hHeld ?_
      rotate_left
      · intro w hSw
        go_simp <;> with_reducible rfl
      try simp only [Act.put, List.setIfInBounds_toArray, List.set_cons_zero, List.set_cons_succ]
      refine takeAt 2 (some 8) ?_ rfl rfl (by kernel_rfl) (by kernel_rfl) (by kernel_rfl) (fun _ _ _ h => h) (Or.inl ⟨by rfl, ?_⟩) hHeld ?_
      rotate_left
      · intro w hSw
        go_simp <;> with_reducible rfl
      try simp only [Act.put, List.setIfInBounds_toArray, List.set_cons_zero, List.set_cons_succ]
      refine takeAt 3 (some 9) ?_ rfl rfl (by kernel_rfl) (by kernel_rfl) (by kernel_rfl) (fun _ _ _ h => h) (Or.inl ⟨by rfl, ?_⟩) hHeld ?_
      rotate_left
      · intro w hSw
        go_simp <;> with_reducible rfl
      try simp only [Act.put, List.setIfInBounds_toArray, List.set_cons_zero, List.set_cons_succ]
      refine takeAt 4 (some 10) ?_ rfl rfl (by kernel_rfl) (by kernel_rfl) (by kernel_rfl) (fun _ _ _ h => h) (Or.inl ⟨by rfl, ?_⟩) hHeld ?_
      rotate_left
      · intro w hSw
        go_simp <;> with_reducible rfl
      try simp only [Act.put, List.setIfInBounds_toArray, List.set_cons_zero, List.set_cons_succ]
      refine takeAt 5 (some 11) ?_ rfl rfl (by kernel_rfl) (by kernel_rfl) (by kernel_rfl) (fun _ _ _ h => h) (Or.inl ⟨by rfl, ?_⟩) hHeld ?_
      rotate_left
      · intro w hSw
        go_simp <;> with_reducible rfl
      try simp only [Act.put, List.setIfInBounds_toArray, List.set_cons_zero, List.set_cons_succ]
      refine takeAt 6 (some 12) ?_ rfl rfl (by kernel_rfl) (by kernel_rfl) (by kernel_rfl) (fun _ _ _ h => h) (Or.inl ⟨by rfl, ?_⟩) hHeld ?_
      rotate_left
      · intro w hSw
        go_simp <;> with_reducible rfl
      try simp only [Act.put, List.setIfInBounds_toArray, List.set_cons_zero, List.set_cons_succ]
      refine takeAt 7 (some 13) ?_ rfl rfl (by kernel_rfl) (by kernel_rfl) (by kernel_rfl) (fun _ _ _ h => h) (Or.inl ⟨by rfl, ?_⟩) hHeld ?_
      rotate_left
      · intro w hSw
        go_simp <;> with_reducible rfl
      try simp only [Act.put, List.setIfInBounds_toArray, List.set_cons_zero, List.set_cons_succ]
      refine takeAt 8 (some 14) ?_ rfl rfl (by kernel_rfl) (by kernel_rfl) (by kernel_rfl) (fun _ _ _ h => h) (Or.inl ⟨by rfl, ?_⟩) hHeld ?_
      rotate_left
      · intro w hSw
        go_simp <;> with_reducible rfl
      try simp only [Act.put, List.setIfInBounds_toArray, List.set_cons_zero, List.set_cons_succ]
      refine takeAt 9 (some 15) ?_ rfl rfl (by kernel_rfl) (by kernel_rfl) (by kernel_rfl) (fun _ _ _ h => h) (Or.inl ⟨by rfl, ?_⟩) hHeld ?_
      rotate_left
      · intro w hSw
        go_simp <;> with_reducible rfl
      try simp only [Act.put, List.setIfInBounds_toArray, List.set_cons_zero, List.set_cons_succ]
      refine takeAt 10 (some 16) ?_ rfl rfl (by kernel_rfl) (by kernel_rfl) (by kernel_rfl) (fun _ _ _ h => h) (Or.inl ⟨by rfl, ?_⟩) hHeld ?_
      rotate_left
      · intro w hSw
        go_simp <;> with_reducible rfl
      try simp only [Act.put, List.setIfInBounds_toArray, List.set_cons_zero, List.set_cons_succ]
      refine takeAt 11 (some 17) ?_ rfl rfl (by kernel_rfl) (by kernel_rfl) (by kernel_rfl) (fun _ _ _ h => h) (Or.inl ⟨by rfl, ?_⟩) hHeld ?_
      rotate_left
      · intro w hSw
        go_simp <;> with_reducible rfl
      try simp only [Act.put, List.setIfInBounds_toArray, List.set_cons_zero, List.set_cons_succ]
      refine takeAt 12 (some 18) ?_ rfl rfl (by kernel_rfl) (by kernel_rfl) (by kernel_rfl) (fun _ _ _ h => h) (Or.inl ⟨by rfl, ?_⟩) hHeld ?_
      rotate_left
      · intro w hSw
        go_simp <;> with_reducible rfl
      try simp only [Act.put, List.setIfInBounds_toArray, List.set_cons_zero, List.set_cons_succ]
      refine takeAt 13 (some 19) ?_ rfl rfl (by kernel_rfl) (by kernel_rfl) (by kernel_rfl) (fun _ _ _ h => h) (Or.inl ⟨by rfl, ?_⟩) hHeld ?_
      rotate_left
      · intro w hSw
        go_simp <;> with_reducible rfl
      try simp only [Act.put, List.setIfInBounds_toArray, List.set_cons_zero, List.set_cons_succ]
      refine takeAt 14 (some 20) ?_ rfl rfl (by kernel_rfl) (by kernel_rfl) (by kernel_rfl) (fun _ _ _ h => h) (Or.inl ⟨by rfl, ?_⟩) hHeld ?_
      rotate_left
      · intro w hSw
        go_simp <;> with_reducible rfl
      try simp only [Act.put, List.setIfInBounds_toArray, List.set_cons_zero, List.set_cons_succ]
      refine takeAt 15 (some 21) ?_ rfl rfl (by kernel_rfl) (by kernel_rfl) (by kernel_rfl) (fun _ _ _ h => h) (Or.inl ⟨by rfl, ?_⟩) hHeld ?_
      rotate_left
      · intro w hSw
        go_simp <;> with_reducible rfl
      try simp only [Act.put, List.setIfInBounds_toArray, List.set_cons_zero, List.set_cons_succ]
      refine takeAt 16 (some 22) ?_ rfl rfl (by kernel_rfl) (by kernel_rfl) (by kernel_rfl) (fun _ _ _ h => h) (Or.inl ⟨by rfl, ?_⟩) hHeld ?_
      rotate_left
      · intro w hSw
        go_simp <;> with_reducible rfl
      try simp only [Act.put, List.setIfInBounds_toArray, List.set_cons_zero, List.set_cons_succ]
      refine takeAt 17 (some 23) ?_ rfl rfl (by kernel_rfl) (by kernel_rfl) (by kernel_rfl) (fun _ _ _ h => h) (Or.inl ⟨by rfl, ?_⟩) hHeld ?_
      rotate_left
      · intro w hSw
        go_simp <;> with_reducible rfl
      try simp only [Act.put, List.setIfInBounds_toArray, List.set_cons_zero, List.set_cons_succ]
      refine takeAt 18 (some 24) ?_ rfl rfl (by kernel_rfl) (by kernel_rfl) (by kernel_rfl) (fun _ _ _ h => h) (Or.inl ⟨by rfl, ?_⟩) hHeld ?_
      rotate_left
      · intro w hSw
        go_simp <;> with_reducible rfl
      try simp only [Act.put, List.setIfInBounds_toArray, List.set_cons_zero, List.set_cons_succ]
      refine takeAt 19 (some 25) ?_ rfl rfl (by kernel_rfl) (by kernel_rfl) (by kernel_rfl) (fun _ _ _ h => h) (Or.inl ⟨by rfl, ?_⟩) hHeld ?_
      rotate_left
      · intro w hSw
        go_simp <;> with_reducible rfl
      try simp only [Act.put, List.setIfInBounds_toArray, List.set_cons_zero, List.set_cons_succ]
      refine takeAt 20 (some 26) ?_ rfl rfl (by kernel_rfl) (by kernel_rfl) (by kernel_rfl) (fun _ _ _ h => h) (Or.inl ⟨by rfl, ?_⟩) hHeld ?_
      rotate_left
      · intro w hSw
        go_simp <;> with_reducible rfl
      try simp only [Act.put, List.setIfInBounds_toArray, List.set_cons_zero, List.set_cons_succ]
      refine wpAnyH_ready (rs := [21]) (by kernel_rfl) (by simp) ?_
      refine AllReadyH.cons rfl (fun K hK => ?_) AllReadyH.nil
      rw [if_pos (by rfl)]
      refine call_stepV 27 78 (vals := #[.int .u8 (s[k].toNat : Int)]) rfl rfl rfl (by simp [Act.eval]) Tryz.func78 (by kernel_rfl) (by kernel_rfl) ?_
      refine Calls.mono (HC.out 1) ?_
      rintro e w2 ⟨rfl, kk⟩
      obtain ⟨xf, xp⟩ := HFJ.out w2 kk
      have HX : Hid (Fr (On b) w w2 ∧ Pc T s k m b w2) := ⟨xf, xp⟩
      clear xf xp kk
      refine ⟨_, rfl, ?_⟩
      refine hK.out _ _ ⟨HX.out.2.c0, HX.out.2.c1⟩ (fun hHeld => ?_)
      clear hK K
      try simp only [Act.put, List.setIfInBounds_toArray, List.set_cons_zero, List.set_cons_succ]
      refine takeAt 22 (some 28) ?_ rfl rfl (by kernel_rfl) (by kernel_rfl) (by kernel_rfl) (fun _ _ _ h => h) (Or.inl ⟨by rfl, ?_⟩) hHeld ?_
      rotate_left
      · intro w hSw
        go_simp <;> with_reducible rfl
      try simp only [Act.put, List.setIfInBounds_toArray, List.set_cons_zero, List.set_cons_succ]
      refine takeAt 23 (some 29) ?_ rfl rfl (by kernel_rfl) (by kernel_rfl) (by kernel_rfl) (fun _ _ _ h => h) (Or.inl ⟨by rfl, ?_⟩) hHeld ?_
      rotate_left
      · intro w hSw
        go_simp <;> with_reducible rfl
      try simp only [Act.put, List.setIfInBounds_toArray, List.set_cons_zero, List.set_cons_succ]
      refine wpAnyH_done (by kernel_rfl) ?_ _
      refine NoPanic.normal ?_
      clear HC HFJ c0 c1 hHeld
      go_wp2_with fail
      go_ret2
      exact ⟨rfl, HX.out⟩
set_option maxHeartbeats 8000000 in
theorem one_sgn (h : Pc T s k m b w) (hs : s.size ≤ 1000000) (hl : Lf s k l) :
    Calls Tryz.prog 33 #[.pointer (some ⟨b, 0, none⟩), .func (.func 106) #[] #[]] w fun e w' => e = .returned (.tuple #[.int .u8 ((((oneL sgnF l).1.map UInt8.toNat).getD 0 : Nat) : Int), .bool (oneL sgnF l).1.isSome]) ∧ Fr (On b) w w' ∧ Pc T s (s.size - (oneL sgnF l).2.length) m b w' := by
  cases l with
  | nil =>
    have e := hl.end_
    subst e
    have HE : Hid (∀ q, Fr (On b) w (w.drewN q) ∧ Pc T s s.size m b (w.drewN q)) := fun q => ⟨Fr.drewN _ _ q, h.kp (kp_drewN _ q)⟩
    have c0 := h.c0; have c1 := h.c1
    have hne : ((s.size : Int) == (s.size : Int)) = true := by simp
    clear h hl
    go_enter Tryz.func33, Tryz.ntmps33
    go_wp2_with fail
    go_quiet (fail)
    go_wp2_with fail
    go_ret2
    exact ⟨rfl, HE.out _⟩
  | cons a r =>
    obtain ⟨h1, h2, h3⟩ := hl.cons
    have c0 := h.c0; have c1 := h.c1
    have hne : ((k : Int) == (s.size : Int)) = false := by simp; omega
    have hb := byteAt_eq s k h1
    rw [h2] at hb
    have hp3 := h3.pos
    have hpl := hl.pos
    have HFJ : Hid (∀ w2, Kp w w2 → Fr (On b) w w2 ∧ Pc T s k m b w2) := fun w2 k2 => ⟨Fr.of_below k2, h.kp k2⟩
    cases hf : sgnF a.toNat with
    | true =>
      rw [oneL_yes hf]
      have HC : Hid (∀ q, Calls Tryz.prog 106 #[.int .u8 (s[k].toNat : Int)] (w.drewN q) fun e w' => e = .returned (.bool true) ∧ Kp w w') := fun q => by
        rw [← hb]
        refine (csgn_any a.toNat (UInt8.toNat_lt a) (w.drewN q)).mono ?_
        rintro e w' ⟨rfl, k⟩
        exact ⟨by show Ending.returned (Value.bool (sgnF a.toNat)) = _; rw [hf], kp_trans (kp_drewN _ q) k⟩
      have HB : Hid (a.toNat = s[k].toNat) := hb
      have hK : s.size - r.length = k + 1 := hp3.symm
      rw [hK]
      clear h hl h2 h3 hb hp3 hpl hf hK
      go_enter Tryz.func33, Tryz.ntmps33
      go_upto_region 1 with fail
      refine wp_region_noPanic ?_
      refine wp_region_held_drew (S := fun z => z.cell? ⟨b, 0, none⟩ = some (.string s) ∧ z.cell? ⟨b, 1, none⟩ = some (.int .i64 (k : Int))) (by kernel_rfl) (⟨kp_cell (kp_drew _) c0, kp_cell (kp_drew _) c1⟩) (fun hHeld => ?_)
      refine takeAt 0 (some 6) ?_ rfl rfl (by kernel_rfl) (by kernel_rfl) (by kernel_rfl) (fun _ _ _ h => h) (Or.inl ⟨by rfl, ?_⟩) hHeld ?_
      rotate_left
      · intro w hSw
        go_simp <;> with_reducible rfl
      try simp only [Act.put, List.setIfInBounds_toArray, List.set_cons_zero, List.set_cons_succ]
      refine takeAt 1 (some 7) ?_ rfl rfl (by kernel_rfl) (by kernel_rfl) (by kernel_rfl) (fun _ _ _ h => h) (Or.inl ⟨by rfl, ?_⟩) hHeld ?_
      rotate_left
      · intro w hSw
        go_simp <;> with_reducible rfl
      try simp only [Act.put, List.setIfInBounds_toArray, List.set_cons_zero, List.set_cons_succ]
      refine takeAt 2 (some 8) ?_ rfl rfl (by kernel_rfl) (by kernel_rfl) (by kernel_rfl) (fun _ _ _ h => h) (Or.inl ⟨by rfl, ?_⟩) hHeld ?_
      rotate_left
      · intro w hSw
        go_simp <;> with_reducible rfl
      try simp only [Act.put, List.setIfInBounds_toArray, List.set_cons_zero, List.set_cons_succ]
      refine takeAt 3 (some 9) ?_ rfl rfl (by kernel_rfl) (by kernel_rfl) (by kernel_rfl) (fun _ _ _ h => h) (Or.inl ⟨by rfl, ?_⟩) hHeld ?_
      rotate_left
      · intro w hSw
        go_simp <;> with_reducible rfl
      try simp only [Act.put, List.setIfInBounds_toArray, List.set_cons_zero, List.set_cons_succ]
      refine takeAt 4 (some 10) ?_ rfl rfl (by kernel_rfl) (by kernel_rfl) (by kernel_rfl) (fun _ _ _ h => h) (Or.inl ⟨by rfl, ?_⟩) hHeld ?_
      rotate_left
      · intro w hSw
        go_simp <;> with_reducible rfl
      try simp only [Act.put, List.setIfInBounds_toArray, List.set_cons_zero, List.set_cons_succ]
      refine takeAt 5 (some 11) ?_ rfl rfl (by kernel_rfl) (by kernel_rfl) (by kernel_rfl) (fun _ _ _ h => h) (Or.inl ⟨by rfl, ?_⟩) hHeld ?_
      rotate_left
      · intro w hSw
        go_simp <;> with_reducible rfl
      try simp only [Act.put, List.setIfInBounds_toArray, List.set_cons_zero, List.set_cons_succ]
      refine takeAt 6 (some 12) ?_ rfl rfl (by kernel_rfl) (by kernel_rfl) (by kernel_rfl) (fun _ _ _ h => h) (Or.inl ⟨by rfl, ?_⟩) hHeld ?_
      rotate_left
      · intro w hSw
        go_simp <;> with_reducible rfl
      try simp only [Act.put, List.setIfInBounds_toArray, List.set_cons_zero, List.set_cons_succ]
      refine takeAt 7 (some 13) ?_ rfl rfl (by kernel_rfl) (by kernel_rfl) (by kernel_rfl) (fun _ _ _ h => h) (Or.inl ⟨by rfl, ?_⟩) hHeld ?_
      rotate_left
      · intro w hSw
        go_simp <;> with_reducible rfl
      try simp only [Act.put, List.setIfInBounds_toArray, List.set_cons_zero, List.set_cons_succ]
      refine takeAt 8 (some 14) ?_ rfl rfl (by kernel_rfl) (by kernel_rfl) (by kernel_rfl) (fun _ _ _ h => h) (Or.inl ⟨by rfl, ?_⟩) hHeld ?_
      rotate_left
      · intro w hSw
        go_simp <;> with_reducible rfl
      try simp only [Act.put, List.setIfInBounds_toArray, List.set_cons_zero, List.set_cons_succ]
      refine takeAt 9 (some 15) ?_ rfl rfl (by kernel_rfl) (by kernel_rfl) (by kernel_rfl) (fun _ _ _ h => h) (Or.inl ⟨by rfl, ?_⟩) hHeld ?_
      rotate_left
      · intro w hSw
        go_simp <;> with_reducible rfl
      try simp only [Act.put, List.setIfInBounds_toArray, List.set_cons_zero, List.set_cons_succ]
      refine takeAt 10 (some 16) ?_ rfl rfl (by kernel_rfl) (by kernel_rfl) (by kernel_rfl) (fun _ _ _ h => h) (Or.inl ⟨by rfl, ?_⟩) hHeld ?_
      rotate_left
      · intro w hSw
        go_simp <;> with_reducible rfl
      try simp only [Act.put, List.setIfInBounds_toArray, List.set_cons_zero, List.set_cons_succ]
      refine takeAt 11 (some 17) ?_ rfl rfl (by kernel_rfl) (by kernel_rfl) (by kernel_rfl) (fun _ _ _ h => h) (Or.inl ⟨by rfl, ?_⟩) hHeld ?_
      rotate_left
      · intro w hSw
        go_simp <;> with_reducible rfl
      try simp only [Act.put, List.setIfInBounds_toArray, List.set_cons_zero, List.set_cons_succ]
      refine takeAt 12 (some 18) ?_ rfl rfl (by kernel_rfl) (by kernel_rfl) (by kernel_rfl) (fun _ _ _ h => h) (Or.inl ⟨by rfl, ?_⟩) hHeld ?_
      rotate_left
      · intro w hSw
        go_simp <;> with_reducible rfl
      try simp only [Act.put, List.setIfInBounds_toArray, List.set_cons_zero, List.set_cons_succ]
      refine takeAt 13 (some 19) ?_ rfl rfl (by kernel_rfl) (by kernel_rfl) (by kernel_rfl) (fun _ _ _ h => h) (Or.inl ⟨by rfl, ?_⟩) hHeld ?_
      rotate_left
      · intro w hSw
        go_simp <;> with_reducible rfl
      try simp only [Act.put, List.setIfInBounds_toArray, List.set_cons_zero, List.set_cons_succ]
      refine takeAt 14 (some 20) ?_ rfl rfl (by kernel_rfl) (by kernel_rfl) (by kernel_rfl) (fun _ _ _ h => h) (Or.inl ⟨by rfl, ?_⟩) hHeld ?_
      rotate_left
      · intro w hSw
        go_simp <;> with_reducible rfl
      try simp only [Act.put, List.setIfInBounds_toArray, List.set_cons_zero, List.set_cons_succ]
      refine takeAt 15 (some 21) ?_ rfl rfl (by kernel_rfl) (by kernel_rfl) (by kernel_rfl) (fun _ _ _ h => h) (Or.inl ⟨by rfl, ?_⟩) hHeld ?_
      rotate_left
      · intro w hSw
        go_simp <;> with_reducible rfl
      try simp only [Act.put, List.setIfInBounds_toArray, List.set_cons_zero, List.set_cons_succ]
      refine takeAt 16 (some 22) ?_ rfl rfl (by kernel_rfl) (by kernel_rfl) (by kernel_rfl) (fun _ _ _ h => h) (Or.inl ⟨by rfl, ?_⟩) hHeld ?_
      rotate_left
      · intro w hSw
        go_simp <;> with_reducible rfl
      try simp only [Act.put, List.setIfInBounds_toArray, List.set_cons_zero, List.set_cons_succ]
      refine takeAt 17 (some 23) ?_ rfl rfl (by kernel_rfl) (by kernel_rfl) (by kernel_rfl) (fun _ _ _ h => h) (Or.inl ⟨by rfl, ?_⟩) hHeld ?_
      rotate_left
      · intro w hSw
        go_simp <;> with_reducible rfl
      try simp only [Act.put, List.setIfInBounds_toArray, List.set_cons_zero, List.set_cons_succ]
      refine takeAt 18 (some 24) ?_ rfl rfl (by kernel_rfl) (by kernel_rfl) (by kernel_rfl) (fun _ _ _ h => h) (Or.inl ⟨by rfl, ?_⟩) hHeld ?_
      rotate_left
      · intro w hSw
        go_simp <;> with_reducible rfl
      try simp only [Act.put, List.setIfInBounds_toArray, List.set_cons_zero, List.set_cons_succ]
      refine takeAt 19 (some 25) ?_ rfl rfl (by kernel_rfl) (by kernel_rfl) (by kernel_rfl) (fun _ _ _ h => h) (Or.inl ⟨by rfl, ?_⟩) hHeld ?_
      rotate_left
      · intro w hSw
        go_simp <;> with_reducible rfl
      try simp only [Act.put, List.setIfInBounds_toArray, List.set_cons_zero, List.set_cons_succ]
      refine takeAt 20 (some 26) ?_ rfl rfl (by kernel_rfl) (by kernel_rfl) (by kernel_rfl) (fun _ _ _ h => h) (Or.inl ⟨by rfl, ?_⟩) hHeld ?_
      rotate_left
      · intro w hSw
        go_simp <;> with_reducible rfl
      try simp only [Act.put, List.setIfInBounds_toArray, List.set_cons_zero, List.set_cons_succ]
      refine wpAnyH_ready (rs := [21]) (by kernel_rfl) (by simp) ?_
      refine AllReadyH.cons rfl (fun K hK => ?_) AllReadyH.nil
      rw [if_pos (by rfl)]
      refine call_stepV 27 106 (vals := #[.int .u8 (s[k].toNat : Int)]) rfl rfl rfl (by simp [Act.eval]) Tryz.func106 (by kernel_rfl) (by kernel_rfl) ?_
      refine Calls.mono (HC.out 1) ?_
      rintro e w2 ⟨rfl, kk⟩
      obtain ⟨xf, xp⟩ := HFJ.out w2 kk
      have HX : Hid (Fr (On b) w w2 ∧ Pc T s k m b w2) := ⟨xf, xp⟩
      clear xf xp kk
      refine ⟨_, rfl, ?_⟩
      refine hK.out _ _ ⟨HX.out.2.c0, HX.out.2.c1⟩ (fun hHeld => ?_)
      clear hK K
      try simp only [Act.put, List.setIfInBounds_toArray, List.set_cons_zero, List.set_cons_succ]
      refine takeAt 22 (some 28) ?_ rfl rfl (by kernel_rfl) (by kernel_rfl) (by kernel_rfl) (fun _ _ _ h => h) (Or.inl ⟨by rfl, ?_⟩) hHeld ?_
      rotate_left
      · intro w hSw
        go_simp <;> with_reducible rfl
      try simp only [Act.put, List.setIfInBounds_toArray, List.set_cons_zero, List.set_cons_succ]
      refine takeAt 23 (some 29) ?_ rfl rfl (by kernel_rfl) (by kernel_rfl) (by kernel_rfl) (fun _ _ _ h => h) (Or.inl ⟨by rfl, ?_⟩) hHeld ?_
      rotate_left
      · intro w hSw
        go_simp <;> with_reducible rfl
      try simp only [Act.put, List.setIfInBounds_toArray, List.set_cons_zero, List.set_cons_succ]
      refine wpAnyH_done (by kernel_rfl) ?_ _
      refine NoPanic.normal ?_
      clear HC HFJ c0 c1 hHeld
      have c0 := HX.out.2.c0
      have c1 := HX.out.2.c1
      have f1 := HX.out.2.f1
      go_upto_region 4 with fail
      have HY : Hid (∀ q, Fr (On b) w ((w2.setCell ⟨b, 1, none⟩ (.int .i64 ((k : Int) + 1))).drewN q) ∧ Pc T s (k + 1) m b ((w2.setCell ⟨b, 1, none⟩ (.int .i64 ((k : Int) + 1))).drewN q)) := fun q =>
        ⟨(HX.out.1.trans (fr_set _ _ _ _)).trans (Fr.drewN _ _ q), (HX.out.2.to (k + 1)).kp (kp_drewN _ q)⟩
      clear HX
      go_quiet (fail)
      go_wp2_with fail
      go_ret2
      exact ⟨by show Ending.returned (.tuple #[.int .u8 (s[k].toNat : Int), .bool true]) = Ending.returned (.tuple #[.int .u8 (a.toNat : Int), .bool true]); rw [HB.out], HY.out _⟩
    | false =>
      rw [oneL_no hf]
      have HC : Hid (∀ q, Calls Tryz.prog 106 #[.int .u8 (s[k].toNat : Int)] (w.drewN q) fun e w' => e = .returned (.bool false) ∧ Kp w w') := fun q => by
        rw [← hb]
        refine (csgn_any a.toNat (UInt8.toNat_lt a) (w.drewN q)).mono ?_
        rintro e w' ⟨rfl, k⟩
        exact ⟨by show Ending.returned (Value.bool (sgnF a.toNat)) = _; rw [hf], kp_trans (kp_drewN _ q) k⟩
      have hK : s.size - (a :: r).length = k := hpl.symm
      rw [hK]
      clear h hl h2 h3 hb hp3 hpl hf hK
      go_enter Tryz.func33, Tryz.ntmps33
      go_upto_region 1 with fail
      refine wp_region_noPanic ?_
      refine wp_region_held_drew (S := fun z => z.cell? ⟨b, 0, none⟩ = some (.string s) ∧ z.cell? ⟨b, 1, none⟩ = some (.int .i64 (k : Int))) (by kernel_rfl) (⟨kp_cell (kp_drew _) c0, kp_cell (kp_drew _) c1⟩) (fun hHeld => ?_)
      refine takeAt 0 (some 6) ?_ rfl rfl (by kernel_rfl) (by kernel_rfl) (by kernel_rfl) (fun _ _ _ h => h) (Or.inl ⟨by rfl, ?_⟩) hHeld ?_
      rotate_left
      · intro w hSw
        go_simp <;> with_reducible rfl
      try simp only [Act.put, List.setIfInBounds_toArray, List.set_cons_zero, List.set_cons_succ]
      refine takeAt 1 (some 7) ?_ rfl rfl (by kernel_rfl) (by kernel_rfl) (by kernel_rfl) (fun _ _ _ h => h) (Or.inl ⟨by rfl, ?_⟩) hHeld ?_
      rotate_left
      · intro w hSw
        go_simp <;> with_reducible rfl
      try simp only [Act.put, List.setIfInBounds_toArray, List.set_cons_zero, List.set_cons_succ]
      refine takeAt 2 (some 8) ?_ rfl rfl (by kernel_rfl) (by kernel_rfl) (by kernel_rfl) (fun _ _ _ h => h) (Or.inl ⟨by rfl, ?_⟩) hHeld ?_
      rotate_left
      · intro w hSw
        go_simp <;> with_reducible rfl
      try simp only [Act.put, List.setIfInBounds_toArray, List.set_cons_zero, List.set_cons_succ]
      refine takeAt 3 (some 9) ?_ rfl rfl (by kernel_rfl) (by kernel_rfl) (by kernel_rfl) (fun _ _ _ h => h) (Or.inl ⟨by rfl, ?_⟩) hHeld ?_
      rotate_left
      · intro w hSw
        go_simp <;> with_reducible rfl
      try simp only [Act.put, List.setIfInBounds_toArray, List.set_cons_zero, List.set_cons_succ]
      refine takeAt 4 (some 10) ?_ rfl rfl (by kernel_rfl) (by kernel_rfl) (by kernel_rfl) (fun _ _ _ h => h) (Or.inl ⟨by rfl, ?_⟩) hHeld ?_
      rotate_left
      · intro w hSw
        go_simp <;> with_reducible rfl
      try simp only [Act.put, List.setIfInBounds_toArray, List.set_cons_zero, List.set_cons_succ]
      refine takeAt 5 (some 11) ?_ rfl rfl (by kernel_rfl) (by kernel_rfl) (by kernel_rfl) (fun _ _ _ h => h) (Or.inl ⟨by rfl, ?_⟩) hHeld ?_
      rotate_left
      · intro w hSw
        go_simp <;> with_reducible rfl
      try simp only [Act.put, List.setIfInBounds_toArray, List.set_cons_zero, List.set_cons_succ]
      refine takeAt 6 (some 12) ?_ rfl rfl (by kernel_rfl) (by kernel_rfl) (by kernel_rfl) (fun _ _ _ h => h) (Or.inl ⟨by rfl, ?_⟩) hHeld ?_
      rotate_left
      · intro w hSw
        go_simp <;> with_reducible rfl
      try simp only [Act.put, List.setIfInBounds_toArray, List.set_cons_zero, List.set_cons_succ]
      refine takeAt 7 (some 13) ?_ rfl rfl (by kernel_rfl) (by kernel_rfl) (by kernel_rfl) (fun _ _ _ h => h) (Or.inl ⟨by rfl, ?_⟩) hHeld ?_
      rotate_left
      · intro w hSw
        go_simp <;> with_reducible rfl
      try simp only [Act.put, List.setIfInBounds_toArray, List.set_cons_zero, List.set_cons_succ]
      refine takeAt 8 (some 14) ?_ rfl rfl (by kernel_rfl) (by kernel_rfl) (by kernel_rfl) (fun _ _ _ h => h) (Or.inl ⟨by rfl, ?_⟩) hHeld ?_
      rotate_left
      · intro w hSw
        go_simp <;> with_reducible rfl
      try simp only [Act.put, List.setIfInBounds_toArray, List.set_cons_zero, List.set_cons_succ]
      refine takeAt 9 (some 15) ?_ rfl rfl (by kernel_rfl) (by kernel_rfl) (by kernel_rfl) (fun _ _ _ h => h) (Or.inl ⟨by rfl, ?_⟩) hHeld ?_
      rotate_left
      · intro w hSw
        go_simp <;> with_reducible rfl
      try simp only [Act.put, List.setIfInBounds_toArray, List.set_cons_zero, List.set_cons_succ]
      refine takeAt 10 (some 16) ?_ rfl rfl (by kernel_rfl) (by kernel_rfl) (by kernel_rfl) (fun _ _ _ h => h) (Or.inl ⟨by rfl, ?_⟩) hHeld ?_
      rotate_left
      · intro w hSw
        go_simp <;> with_reducible rfl
      try simp only [Act.put, List.setIfInBounds_toArray, List.set_cons_zero, List.set_cons_succ]
      refine takeAt 11 (some 17) ?_ rfl rfl (by kernel_rfl) (by kernel_rfl) (by kernel_rfl) (fun _ _ _ h => h) (Or.inl ⟨by rfl, ?_⟩) hHeld ?_
      rotate_left
      · intro w hSw
        go_simp <;> with_reducible rfl
      try simp only [Act.put, List.setIfInBounds_toArray, List.set_cons_zero, List.set_cons_succ]
      refine takeAt 12 (some 18) ?_ rfl rfl (by kernel_rfl) (by kernel_rfl) (by kernel_rfl) (fun _ _ _ h => h) (Or.inl ⟨by rfl, ?_⟩) hHeld ?_
      rotate_left
      · intro w hSw
        go_simp <;> with_reducible rfl
      try simp only [Act.put, List.setIfInBounds_toArray, List.set_cons_zero, List.set_cons_succ]
      refine takeAt 13 (some 19) ?_ rfl rfl (by kernel_rfl) (by kernel_rfl) (by kernel_rfl) (fun _ _ _ h => h) (Or.inl ⟨by rfl, ?_⟩) hHeld ?_
      rotate_left
      · intro w hSw
        go_simp <;> with_reducible rfl
      try simp only [Act.put, List.setIfInBounds_toArray, List.set_cons_zero, List.set_cons_succ]
      refine takeAt 14 (some 20) ?_ rfl rfl (by kernel_rfl) (by kernel_rfl) (by kernel_rfl) (fun _ _ _ h => h) (Or.inl ⟨by rfl, ?_⟩) hHeld ?_
      rotate_left
      · intro w hSw
        go_simp <;> with_reducible rfl
      try simp only [Act.put, List.setIfInBounds_toArray, List.set_cons_zero, List.set_cons_succ]
      refine takeAt 15 (some 21) ?_ rfl rfl (by kernel_rfl) (by kernel_rfl) (by kernel_rfl) (fun _ _ _ h => h) (Or.inl ⟨by rfl, ?_⟩) hHeld ?_
      rotate_left
      · intro w hSw
        go_simp <;> with_reducible rfl
      try simp only [Act.put, List.setIfInBounds_toArray, List.set_cons_zero, List.set_cons_succ]
      refine takeAt 16 (some 22) ?_ rfl rfl (by kernel_rfl) (by kernel_rfl) (by kernel_rfl) (fun _ _ _ h => h) (Or.inl ⟨by rfl, ?_⟩) hHeld ?_
      rotate_left
      · intro w hSw
        go_simp <;> with_reducible rfl
      try simp only [Act.put, List.setIfInBounds_toArray, List.set_cons_zero, List.set_cons_succ]
      refine takeAt 17 (some 23) ?_ rfl rfl (by kernel_rfl) (by kernel_rfl) (by kernel_rfl) (fun _ _ _ h => h) (Or.inl ⟨by rfl, ?_⟩) hHeld ?_
      rotate_left
      · intro w hSw
        go_simp <;> with_reducible rfl
      try simp only [Act.put, List.setIfInBounds_toArray, List.set_cons_zero, List.set_cons_succ]
      refine takeAt 18 (some 24) ?_ rfl rfl (by kernel_rfl) (by kernel_rfl) (by kernel_rfl) (fun _ _ _ h => h) (Or.inl ⟨by rfl, ?_⟩) hHeld ?_
      rotate_left
      · intro w hSw
        go_simp <;> with_reducible rfl
      try simp only [Act.put, List.setIfInBounds_toArray, List.set_cons_zero, List.set_cons_succ]
      refine takeAt 19 (some 25) ?_ rfl rfl (by kernel_rfl) (by kernel_rfl) (by kernel_rfl) (fun _ _ _ h => h) (Or.inl ⟨by rfl, ?_⟩) hHeld ?_
      rotate_left
      · intro w hSw
        go_simp <;> with_reducible rfl
      try simp only [Act.put, List.setIfInBounds_toArray, List.set_cons_zero, List.set_cons_succ]
      refine takeAt 20 (some 26) ?_ rfl rfl (by kernel_rfl) (by kernel_rfl) (by kernel_rfl) (fun _ _ _ h => h) (Or.inl ⟨by rfl, ?_⟩) hHeld ?_
      rotate_left
      · intro w hSw
        go_simp <;> with_reducible rfl
      try simp only [Act.put, List.setIfInBounds_toArray, List.set_cons_zero, List.set_cons_succ]
      refine wpAnyH_ready (rs := [21]) (by kernel_rfl) (by simp) ?_
      refine AllReadyH.cons rfl (fun K hK => ?_) AllReadyH.nil
      rw [if_pos (by rfl)]
      refine call_stepV 27 106 (vals := #[.int .u8 (s[k].toNat : Int)]) rfl rfl rfl (by simp [Act.eval]) Tryz.func106 (by kernel_rfl) (by kernel_rfl) ?_
      refine Calls.mono (HC.out 1) ?_
      rintro e w2 ⟨rfl, kk⟩
      obtain ⟨xf, xp⟩ := HFJ.out w2 kk
      have HX : Hid (Fr (On b) w w2 ∧ Pc T s k m b w2) := ⟨xf, xp⟩
      clear xf xp kk
      refine ⟨_, rfl, ?_⟩
      refine hK.out _ _ ⟨HX.out.2.c0, HX.out.2.c1⟩ (fun hHeld => ?_)
      clear hK K
      try simp only [Act.put, List.setIfInBounds_toArray, List.set_cons_zero, List.set_cons_succ]
      refine takeAt 22 (some 28) ?_ rfl rfl (by kernel_rfl) (by kernel_rfl) (by kernel_rfl) (fun _ _ _ h => h) (Or.inl ⟨by rfl, ?_⟩) hHeld ?_
      rotate_left
      · intro w hSw
        go_simp <;> with_reducible rfl
      try simp only [Act.put, List.setIfInBounds_toArray, List.set_cons_zero, List.set_cons_succ]
      refine takeAt 23 (some 29) ?_ rfl rfl (by kernel_rfl) (by kernel_rfl) (by kernel_rfl) (fun _ _ _ h => h) (Or.inl ⟨by rfl, ?_⟩) hHeld ?_
      rotate_left
      · intro w hSw
        go_simp <;> with_reducible rfl
      try simp only [Act.put, List.setIfInBounds_toArray, List.set_cons_zero, List.set_cons_succ]
      refine wpAnyH_done (by kernel_rfl) ?_ _
      refine NoPanic.normal ?_
      clear HC HFJ c0 c1 hHeld
      go_wp2_with fail
      go_ret2
      exact ⟨rfl, HX.out⟩
set_option maxHeartbeats 8000000 in
theorem one_blk (h : Pc T s k m b w) (hs : s.size ≤ 1000000) (hl : Lf s k l) :
    Calls Tryz.prog 33 #[.pointer (some ⟨b, 0, none⟩), .func (.func 67) #[] #[]] w fun e w' => e = .returned (.tuple #[.int .u8 ((((oneL blkF l).1.map UInt8.toNat).getD 0 : Nat) : Int), .bool (oneL blkF l).1.isSome]) ∧ Fr (On b) w w' ∧ Pc T s (s.size - (oneL blkF l).2.length) m b w' := by
  cases l with
  | nil =>
    have e := hl.end_
    subst e
    have HE : Hid (∀ q, Fr (On b) w (w.drewN q) ∧ Pc T s s.size m b (w.drewN q)) := fun q => ⟨Fr.drewN _ _ q, h.kp (kp_drewN _ q)⟩
    have c0 := h.c0; have c1 := h.c1
    have hne : ((s.size : Int) == (s.size : Int)) = true := by simp
    clear h hl
    go_enter Tryz.func33, Tryz.ntmps33
    go_wp2_with fail
    go_quiet (fail)
    go_wp2_with fail
    go_ret2
    exact ⟨rfl, HE.out _⟩
  | cons a r =>
    obtain ⟨h1, h2, h3⟩ := hl.cons
    have c0 := h.c0; have c1 := h.c1
    have hne : ((k : Int) == (s.size : Int)) = false := by simp; omega
    have hb := byteAt_eq s k h1
    rw [h2] at hb
    have hp3 := h3.pos
    have hpl := hl.pos
    have HFJ : Hid (∀ w2, Kp w w2 → Fr (On b) w w2 ∧ Pc T s k m b w2) := fun w2 k2 => ⟨Fr.of_below k2, h.kp k2⟩
    cases hf : blkF a.toNat with
    | true =>
      rw [oneL_yes hf]
      have HC : Hid (∀ q, Calls Tryz.prog 67 #[.int .u8 (s[k].toNat : Int)] (w.drewN q) fun e w' => e = .returned (.bool true) ∧ Kp w w') := fun q => by
        rw [← hb]
        refine (cblk_any (a.toNat : Int) (w.drewN q)).mono ?_
        rintro e w' ⟨rfl, k⟩
        exact ⟨by show Ending.returned (Value.bool (blkF a.toNat)) = _; rw [hf], kp_trans (kp_drewN _ q) k⟩
      have HB : Hid (a.toNat = s[k].toNat) := hb
      have hK : s.size - r.length = k + 1 := hp3.symm
      rw [hK]
      clear h hl h2 h3 hb hp3 hpl hf hK
      go_enter Tryz.func33, Tryz.ntmps33
      go_upto_region 1 with fail
      refine wp_region_noPanic ?_
      refine wp_region_held_drew (S := fun z => z.cell? ⟨b, 0, none⟩ = some (.string s) ∧ z.cell? ⟨b, 1, none⟩ = some (.int .i64 (k : Int))) (by kernel_rfl) (⟨kp_cell (kp_drew _) c0, kp_cell (kp_drew _) c1⟩) (fun hHeld => ?_)
      refine takeAt 0 (some 6) ?_ rfl rfl (by kernel_rfl) (by kernel_rfl) (by kernel_rfl) (fun _ _ _ h => h) (Or.inl ⟨by rfl, ?_⟩) hHeld ?_
      rotate_left
      · intro w hSw
        go_simp <;> with_reducible rfl
      try simp only [Act.put, List.setIfInBounds_toArray, List.set_cons_zero, List.set_cons_succ]
      refine takeAt 1 (some 7) ?_ rfl rfl (by kernel_rfl) (by kernel_rfl) (by kernel_rfl) (fun _ _ _ h => h) (Or.inl ⟨by rfl, ?_⟩) hHeld ?_
      rotate_left
      · intro w hSw
        go_simp <;> with_reducible rfl
      try simp only [Act.put, List.setIfInBounds_toArray, List.set_cons_zero, List.set_cons_succ]
      refine takeAt 2 (some 8) ?_ rfl rfl (by kernel_rfl) (by kernel_rfl) (by kernel_rfl) (fun _ _ _ h => h) (Or.inl ⟨by rfl, ?_⟩) hHeld ?_
      rotate_left
      · intro w hSw
        go_simp <;> with_reducible rfl
      try simp only [Act.put, List.setIfInBounds_toArray, List.set_cons_zero, List.set_cons_succ]
      refine takeAt 3 (some 9) ?_ rfl rfl (by kernel_rfl) (by kernel_rfl) (by kernel_rfl) (fun _ _ _ h => h) (Or.inl ⟨by rfl, ?_⟩) hHeld ?_
      rotate_left
      · intro w hSw
        go_simp <;> with_reducible rfl
      try simp only [Act.put, List.setIfInBounds_toArray, List.set_cons_zero, List.set_cons_succ]
      refine takeAt 4 (some 10) ?_ rfl rfl (by kernel_rfl) (by kernel_rfl) (by kernel_rfl) (fun _ _ _ h => h) (Or.inl ⟨by rfl, ?_⟩) hHeld ?_
      rotate_left
      · intro w hSw
        go_simp <;> with_reducible rfl
      try simp only [Act.put, List.setIfInBounds_toArray, List.set_cons_zero, List.set_cons_succ]
      refine takeAt 5 (some 11) ?_ rfl rfl (by kernel_rfl) (by kernel_rfl) (by kernel_rfl) (fun _ _ _ h => h) (Or.inl ⟨by rfl, ?_⟩) hHeld ?_
      rotate_left
      · intro w hSw
        go_simp <;> with_reducible rfl
      try simp only [Act.put, List.setIfInBounds_toArray, List.set_cons_zero, List.set_cons_succ]
      refine takeAt 6 (some 12) ?_ rfl rfl (by kernel_rfl) (by kernel_rfl) (by kernel_rfl) (fun _ _ _ h => h) (Or.inl ⟨by rfl, ?_⟩) hHeld ?_
      rotate_left
      · intro w hSw
        go_simp <;> with_reducible rfl
      try simp only [Act.put, List.setIfInBounds_toArray, List.set_cons_zero, List.set_cons_succ]
      refine takeAt 7 (some 13) ?_ rfl rfl (by kernel_rfl) (by kernel_rfl) (by kernel_rfl) (fun _ _ _ h => h) (Or.inl ⟨by rfl, ?_⟩) hHeld ?_
      rotate_left
      · intro w hSw
        go_simp <;> with_reducible rfl
      try simp only [Act.put, List.setIfInBounds_toArray, List.set_cons_zero, List.set_cons_succ]
      refine takeAt 8 (some 14) ?_ rfl rfl (by kernel_rfl) (by kernel_rfl) (by kernel_rfl) (fun _ _ _ h => h) (Or.inl ⟨by rfl, ?_⟩) hHeld ?_
      rotate_left
      · intro w hSw
        go_simp <;> with_reducible rfl
      try simp only [Act.put, List.setIfInBounds_toArray, List.set_cons_zero, List.set_cons_succ]
      refine takeAt 9 (some 15) ?_ rfl rfl (by kernel_rfl) (by kernel_rfl) (by kernel_rfl) (fun _ _ _ h => h) (Or.inl ⟨by rfl, ?_⟩) hHeld ?_
      rotate_left
      · intro w hSw
        go_simp <;> with_reducible rfl
      try simp only [Act.put, List.setIfInBounds_toArray, List.set_cons_zero, List.set_cons_succ]
      refine takeAt 10 (some 16) ?_ rfl rfl (by kernel_rfl) (by kernel_rfl) (by kernel_rfl) (fun _ _ _ h => h) (Or.inl ⟨by rfl, ?_⟩) hHeld ?_
      rotate_left
      · intro w hSw
        go_simp <;> with_reducible rfl
      try simp only [Act.put, List.setIfInBounds_toArray, List.set_cons_zero, List.set_cons_succ]
      refine takeAt 11 (some 17) ?_ rfl rfl (by kernel_rfl) (by kernel_rfl) (by kernel_rfl) (fun _ _ _ h => h) (Or.inl ⟨by rfl, ?_⟩) hHeld ?_
      rotate_left
      · intro w hSw
        go_simp <;> with_reducible rfl
      try simp only [Act.put, List.setIfInBounds_toArray, List.set_cons_zero, List.set_cons_succ]
      refine takeAt 12 (some 18) ?_ rfl rfl (by kernel_rfl) (by kernel_rfl) (by kernel_rfl) (fun _ _ _ h => h) (Or.inl ⟨by rfl, ?_⟩) hHeld ?_
      rotate_left
      · intro w hSw
        go_simp <;> with_reducible rfl
      try simp only [Act.put, List.setIfInBounds_toArray, List.set_cons_zero, List.set_cons_succ]
      refine takeAt 13 (some 19) ?_ rfl rfl (by kernel_rfl) (by kernel_rfl) (by kernel_rfl) (fun _ _ _ h => h) (Or.inl ⟨by rfl, ?_⟩) hHeld ?_
      rotate_left
      · intro w hSw
        go_simp <;> with_reducible rfl
      try simp only [Act.put, List.setIfInBounds_toArray, List.set_cons_zero, List.set_cons_succ]
      refine takeAt 14 (some 20) ?_ rfl rfl (by kernel_rfl) (by kernel_rfl) (by kernel_rfl) (fun _ _ _ h => h) (Or.inl ⟨by rfl, ?_⟩) hHeld ?_
      rotate_left
      · intro w hSw
        go_simp <;> with_reducible rfl
      try simp only [Act.put, List.setIfInBounds_toArray, List.set_cons_zero, List.set_cons_succ]
      refine takeAt 15 (some 21) ?_ rfl rfl (by kernel_rfl) (by kernel_rfl) (by kernel_rfl) (fun _ _ _ h => h) (Or.inl ⟨by rfl, ?_⟩) hHeld ?_
      rotate_left
      · intro w hSw
        go_simp <;> with_reducible rfl
      try simp only [Act.put, List.setIfInBounds_toArray, List.set_cons_zero, List.set_cons_succ]
      refine takeAt 16 (some 22) ?_ rfl rfl (by kernel_rfl) (by kernel_rfl) (by kernel_rfl) (fun _ _ _ h => h) (Or.inl ⟨by rfl, ?_⟩) hHeld ?_
      rotate_left
      · intro w hSw
        go_simp <;> with_reducible rfl
      try simp only [Act.put, List.setIfInBounds_toArray, List.set_cons_zero, List.set_cons_succ]
      refine takeAt 17 (some 23) ?_ rfl rfl (by kernel_rfl) (by kernel_rfl) (by kernel_rfl) (fun _ _ _ h => h) (Or.inl ⟨by rfl, ?_⟩) hHeld ?_
      rotate_left
      · intro w hSw
        go_simp <;> with_reducible rfl
      try simp only [Act.put, List.setIfInBounds_toArray, List.set_cons_zero, List.set_cons_succ]
      refine takeAt 18 (some 24) ?_ rfl rfl (by kernel_rfl) (by kernel_rfl) (by kernel_rfl) (fun _ _ _ h => h) (Or.inl ⟨by rfl, ?_⟩) hHeld ?_
      rotate_left
      · intro w hSw
        go_simp <;> with_reducible rfl
      try simp only [Act.put, List.setIfInBounds_toArray, List.set_cons_zero, List.set_cons_succ]
      refine takeAt 19 (some 25) ?_ rfl rfl (by kernel_rfl) (by kernel_rfl) (by kernel_rfl) (fun _ _ _ h => h) (Or.inl ⟨by rfl, ?_⟩) hHeld ?_
      rotate_left
      · intro w hSw
        go_simp <;> with_reducible rfl
      try simp only [Act.put, List.setIfInBounds_toArray, List.set_cons_zero, List.set_cons_succ]
      refine takeAt 20 (some 26) ?_ rfl rfl (by kernel_rfl) (by kernel_rfl) (by kernel_rfl) (fun _ _ _ h => h) (Or.inl ⟨by rfl, ?_⟩) hHeld ?_
      rotate_left
      · intro w hSw
        go_simp <;> with_reducible rfl
      try simp only [Act.put, List.setIfInBounds_toArray, List.set_cons_zero, List.set_cons_succ]
      refine wpAnyH_ready (rs := [21]) (by kernel_rfl) (by simp) ?_
      refine AllReadyH.cons rfl (fun K hK => ?_) AllReadyH.nil
      rw [if_pos (by rfl)]
      refine call_stepV 27 67 (vals := #[.int .u8 (s[k].toNat : Int)]) rfl rfl rfl (by simp [Act.eval]) Tryz.func67 (by kernel_rfl) (by kernel_rfl) ?_
      refine Calls.mono (HC.out 1) ?_
      rintro e w2 ⟨rfl, kk⟩
      obtain ⟨xf, xp⟩ := HFJ.out w2 kk
      have HX : Hid (Fr (On b) w w2 ∧ Pc T s k m b w2) := ⟨xf, xp⟩
      clear xf xp kk
      refine ⟨_, rfl, ?_⟩
      refine hK.out _ _ ⟨HX.out.2.c0, HX.out.2.c1⟩ (fun hHeld => ?_)
      clear hK K
      try simp only [Act.put, List.setIfInBounds_toArray, List.set_cons_zero, List.set_cons_succ]
      refine takeAt 22 (some 28) ?_ rfl rfl (by kernel_rfl) (by kernel_rfl) (by kernel_rfl) (fun _ _ _ h => h) (Or.inl ⟨by rfl, ?_⟩) hHeld ?_
      rotate_left
      · intro w hSw
        go_simp <;> with_reducible rfl
      try simp only [Act.put, List.setIfInBounds_toArray, List.set_cons_zero, List.set_cons_succ]
      refine takeAt 23 (some 29) ?_ rfl rfl (by kernel_rfl) (by kernel_rfl) (by kernel_rfl) (fun _ _ _ h => h) (Or.inl ⟨by rfl, ?_⟩) hHeld ?_
      rotate_left
      · intro w hSw
        go_simp <;> with_reducible rfl
      try simp only [Act.put, List.setIfInBounds_toArray, List.set_cons_zero, List.set_cons_succ]
      refine wpAnyH_done (by kernel_rfl) ?_ _
      refine NoPanic.normal ?_
      clear HC HFJ c0 c1 hHeld
      have c0 := HX.out.2.c0
      have c1 := HX.out.2.c1
      have f1 := HX.out.2.f1
      go_upto_region 4 with fail
      have HY : Hid (∀ q, Fr (On b) w ((w2.setCell ⟨b, 1, none⟩ (.int .i64 ((k : Int) + 1))).drewN q) ∧ Pc T s (k + 1) m b ((w2.setCell ⟨b, 1, none⟩ (.int .i64 ((k : Int) + 1))).drewN q)) := fun q =>
        ⟨(HX.out.1.trans (fr_set _ _ _ _)).trans (Fr.drewN _ _ q), (HX.out.2.to (k + 1)).kp (kp_drewN _ q)⟩
      clear HX
      go_quiet (fail)
      go_wp2_with fail
      go_ret2
      exact ⟨by show Ending.returned (.tuple #[.int .u8 (s[k].toNat : Int), .bool true]) = Ending.returned (.tuple #[.int .u8 (a.toNat : Int), .bool true]); rw [HB.out], HY.out _⟩
    | false =>
      rw [oneL_no hf]
      have HC : Hid (∀ q, Calls Tryz.prog 67 #[.int .u8 (s[k].toNat : Int)] (w.drewN q) fun e w' => e = .returned (.bool false) ∧ Kp w w') := fun q => by
        rw [← hb]
        refine (cblk_any (a.toNat : Int) (w.drewN q)).mono ?_
        rintro e w' ⟨rfl, k⟩
        exact ⟨by show Ending.returned (Value.bool (blkF a.toNat)) = _; rw [hf], kp_trans (kp_drewN _ q) k⟩
      have hK : s.size - (a :: r).length = k := hpl.symm
      rw [hK]
      clear h hl h2 h3 hb hp3 hpl hf hK
      go_enter Tryz.func33, Tryz.ntmps33
      go_upto_region 1 with fail
      refine wp_region_noPanic ?_
      refine wp_region_held_drew (S := fun z => z.cell? ⟨b, 0, none⟩ = some (.string s) ∧ z.cell? ⟨b, 1, none⟩ = some (.int .i64 (k : Int))) (by kernel_rfl) (⟨kp_cell (kp_drew _) c0, kp_cell (kp_drew _) c1⟩) (fun hHeld => ?_)
      refine takeAt 0 (some 6) ?_ rfl rfl (by kernel_rfl) (by kernel_rfl) (by kernel_rfl) (fun _ _ _ h => h) (Or.inl ⟨by rfl, ?_⟩) hHeld ?_
      rotate_left
      · intro w hSw
        go_simp <;> with_reducible rfl
      try simp only [Act.put, List.setIfInBounds_toArray, List.set_cons_zero, List.set_cons_succ]
      refine takeAt 1 (some 7) ?_ rfl rfl (by kernel_rfl) (by kernel_rfl) (by kernel_rfl) (fun _ _ _ h => h) (Or.inl ⟨by rfl, ?_⟩) hHeld ?_
      rotate_left
      · intro w hSw
        go_simp <;> with_reducible rfl
      try simp only [Act.put, List.setIfInBounds_toArray, List.set_cons_zero, List.set_cons_succ]
      refine takeAt 2 (some 8) ?_ rfl rfl (by kernel_rfl) (by kernel_rfl) (by kernel_rfl) (fun _ _ _ h => h) (Or.inl ⟨by rfl, ?_⟩) hHeld ?_
      rotate_left
      · intro w hSw
        go_simp <;> with_reducible rfl
      try simp only [Act.put, List.setIfInBounds_toArray, List.set_cons_zero, List.set_cons_succ]
      refine takeAt 3 (some 9) ?_ rfl rfl (by kernel_rfl) (by kernel_rfl) (by kernel_rfl) (fun _ _ _ h => h) (Or.inl ⟨by rfl, ?_⟩) hHeld ?_
      rotate_left
      · intro w hSw
        go_simp <;> with_reducible rfl
      try simp only [Act.put, List.setIfInBounds_toArray, List.set_cons_zero, List.set_cons_succ]
      refine takeAt 4 (some 10) ?_ rfl rfl (by kernel_rfl) (by kernel_rfl) (by kernel_rfl) (fun _ _ _ h => h) (Or.inl ⟨by rfl, ?_⟩) hHeld ?_
      rotate_left
      · intro w hSw
        go_simp <;> with_reducible rfl
      try simp only [Act.put, List.setIfInBounds_toArray, List.set_cons_zero, List.set_cons_succ]
      refine takeAt 5 (some 11) ?_ rfl rfl (by kernel_rfl) (by kernel_rfl) (by kernel_rfl) (fun _ _ _ h => h) (Or.inl ⟨by rfl, ?_⟩) hHeld ?_
      rotate_left
      · intro w hSw
        go_simp <;> with_reducible rfl
      try simp only [Act.put, List.setIfInBounds_toArray, List.set_cons_zero, List.set_cons_succ]
      refine takeAt 6 (some 12) ?_ rfl rfl (by kernel_rfl) (by kernel_rfl) (by kernel_rfl) (fun _ _ _ h => h) (Or.inl ⟨by rfl, ?_⟩) hHeld ?_
      rotate_left
      · intro w hSw
        go_simp <;> with_reducible rfl
      try simp only [Act.put, List.setIfInBounds_toArray, List.set_cons_zero, List.set_cons_succ]
      refine takeAt 7 (some 13) ?_ rfl rfl (by kernel_rfl) (by kernel_rfl) (by kernel_rfl) (fun _ _ _ h => h) (Or.inl ⟨by rfl, ?_⟩) hHeld ?_
      rotate_left
      · intro w hSw
        go_simp <;> with_reducible rfl
      try simp only [Act.put, List.setIfInBounds_toArray, List.set_cons_zero, List.set_cons_succ]
      refine takeAt 8 (some 14) ?_ rfl rfl (by kernel_rfl) (by kernel_rfl) (by kernel_rfl) (fun _ _ _ h => h) (Or.inl ⟨by rfl, ?_⟩) hHeld ?_
      rotate_left
      · intro w hSw
        go_simp <;> with_reducible rfl
      try simp only [Act.put, List.setIfInBounds_toArray, List.set_cons_zero, List.set_cons_succ]
      refine takeAt 9 (some 15) ?_ rfl rfl (by kernel_rfl) (by kernel_rfl) (by kernel_rfl) (fun _ _ _ h => h) (Or.inl ⟨by rfl, ?_⟩) hHeld ?_
      rotate_left
      · intro w hSw
        go_simp <;> with_reducible rfl
      try simp only [Act.put, List.setIfInBounds_toArray, List.set_cons_zero, List.set_cons_succ]
      refine takeAt 10 (some 16) ?_ rfl rfl (by kernel_rfl) (by kernel_rfl) (by kernel_rfl) (fun _ _ _ h => h) (Or.inl ⟨by rfl, ?_⟩) hHeld ?_
      rotate_left
      · intro w hSw
        go_simp <;> with_reducible rfl
      try simp only [Act.put, List.setIfInBounds_toArray, List.set_cons_zero, List.set_cons_succ]
      refine takeAt 11 (some 17) ?_ rfl rfl (by kernel_rfl) (by kernel_rfl) (by kernel_rfl) (fun _ _ _ h => h) (Or.inl ⟨by rfl, ?_⟩) hHeld ?_
      rotate_left
      · intro w hSw
        go_simp <;> with_reducible rfl
      try simp only [Act.put, List.setIfInBounds_toArray, List.set_cons_zero, List.set_cons_succ]
      refine takeAt 12 (some 18) ?_ rfl rfl (by kernel_rfl) (by kernel_rfl) (by kernel_rfl) (fun _ _ _ h => h) (Or.inl ⟨by rfl, ?_⟩) hHeld ?_
      rotate_left
      · intro w hSw
        go_simp <;> with_reducible rfl
      try simp only [Act.put, List.setIfInBounds_toArray, List.set_cons_zero, List.set_cons_succ]
      refine takeAt 13 (some 19) ?_ rfl rfl (by kernel_rfl) (by kernel_rfl) (by kernel_rfl) (fun _ _ _ h => h) (Or.inl ⟨by rfl, ?_⟩) hHeld ?_
      rotate_left
      · intro w hSw
        go_simp <;> with_reducible rfl
      try simp only [Act.put, List.setIfInBounds_toArray, List.set_cons_zero, List.set_cons_succ]
      refine takeAt 14 (some 20) ?_ rfl rfl (by kernel_rfl) (by kernel_rfl) (by kernel_rfl) (fun _ _ _ h => h) (Or.inl ⟨by rfl, ?_⟩) hHeld ?_
      rotate_left
      · intro w hSw
        go_simp <;> with_reducible rfl
      try simp only [Act.put, List.setIfInBounds_toArray, List.set_cons_zero, List.set_cons_succ]
      refine takeAt 15 (some 21) ?_ rfl rfl (by kernel_rfl) (by kernel_rfl) (by kernel_rfl) (fun _ _ _ h => h) (Or.inl ⟨by rfl, ?_⟩) hHeld ?_
      rotate_left
      · intro w hSw
        go_simp <;> with_reducible rfl
      try simp only [Act.put, List.setIfInBounds_toArray, List.set_cons_zero, List.set_cons_succ]
      refine takeAt 16 (some 22) ?_ rfl rfl (by kernel_rfl) (by kernel_rfl) (by kernel_rfl) (fun _ _ _ h => h) (Or.inl ⟨by rfl, ?_⟩) hHeld ?_
      rotate_left
      · intro w hSw
        go_simp <;> with_reducible rfl
      try simp only [Act.put, List.setIfInBounds_toArray, List.set_cons_zero, List.set_cons_succ]
      refine takeAt 17 (some 23) ?_ rfl rfl (by kernel_rfl) (by kernel_rfl) (by kernel_rfl) (fun _ _ _ h => h) (Or.inl ⟨by rfl, ?_⟩) hHeld ?_
      rotate_left
      · intro w hSw
        go_simp <;> with_reducible rfl
      try simp only [Act.put, List.setIfInBounds_toArray, List.set_cons_zero, List.set_cons_succ]
      refine takeAt 18 (some 24) ?_ rfl rfl (by kernel_rfl) (by kernel_rfl) (by kernel_rfl) (fun _ _ _ h => h) (Or.inl ⟨by rfl, ?_⟩) hHeld ?_
      rotate_left
      · intro w hSw
        go_simp <;> with_reducible rfl
      try simp only [Act.put, List.setIfInBounds_toArray, List.set_cons_zero, List.set_cons_succ]
      refine takeAt 19 (some 25) ?_ rfl rfl (by kernel_rfl) (by kernel_rfl) (by kernel_rfl) (fun _ _ _ h => h) (Or.inl ⟨by rfl, ?_⟩) hHeld ?_
      rotate_left
      · intro w hSw
        go_simp <;> with_reducible rfl
      try simp only [Act.put, List.setIfInBounds_toArray, List.set_cons_zero, List.set_cons_succ]
      refine takeAt 20 (some 26) ?_ rfl rfl (by kernel_rfl) (by kernel_rfl) (by kernel_rfl) (fun _ _ _ h => h) (Or.inl ⟨by rfl, ?_⟩) hHeld ?_
      rotate_left
      · intro w hSw
        go_simp <;> with_reducible rfl
      try simp only [Act.put, List.setIfInBounds_toArray, List.set_cons_zero, List.set_cons_succ]
      refine wpAnyH_ready (rs := [21]) (by kernel_rfl) (by simp) ?_
      refine AllReadyH.cons rfl (fun K hK => ?_) AllReadyH.nil
      rw [if_pos (by rfl)]
      refine call_stepV 27 67 (vals := #[.int .u8 (s[k].toNat : Int)]) rfl rfl rfl (by simp [Act.eval]) Tryz.func67 (by kernel_rfl) (by kernel_rfl) ?_
      refine Calls.mono (HC.out 1) ?_
      rintro e w2 ⟨rfl, kk⟩
      obtain ⟨xf, xp⟩ := HFJ.out w2 kk
      have HX : Hid (Fr (On b) w w2 ∧ Pc T s k m b w2) := ⟨xf, xp⟩
      clear xf xp kk
      refine ⟨_, rfl, ?_⟩
      refine hK.out _ _ ⟨HX.out.2.c0, HX.out.2.c1⟩ (fun hHeld => ?_)
      clear hK K
      try simp only [Act.put, List.setIfInBounds_toArray, List.set_cons_zero, List.set_cons_succ]
      refine takeAt 22 (some 28) ?_ rfl rfl (by kernel_rfl) (by kernel_rfl) (by kernel_rfl) (fun _ _ _ h => h) (Or.inl ⟨by rfl, ?_⟩) hHeld ?_
      rotate_left
      · intro w hSw
        go_simp <;> with_reducible rfl
      try simp only [Act.put, List.setIfInBounds_toArray, List.set_cons_zero, List.set_cons_succ]
      refine takeAt 23 (some 29) ?_ rfl rfl (by kernel_rfl) (by kernel_rfl) (by kernel_rfl) (fun _ _ _ h => h) (Or.inl ⟨by rfl, ?_⟩) hHeld ?_
      rotate_left
      · intro w hSw
        go_simp <;> with_reducible rfl
      try simp only [Act.put, List.setIfInBounds_toArray, List.set_cons_zero, List.set_cons_succ]
      refine wpAnyH_done (by kernel_rfl) ?_ _
      refine NoPanic.normal ?_
      clear HC HFJ c0 c1 hHeld
      go_wp2_with fail
      go_ret2
      exact ⟨rfl, HX.out⟩
end
end Go.Proofs.YtfgapmfjfienhaaGreatDoor
