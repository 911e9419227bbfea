/- Texts that the proof of the law stands on: QC, QD, QE, QF, QG, QS. -/
import Derived.Test.YtfgapmfjfienhaaGreatDoorPartD
import Derived.Laws.RangeString
import Derived.Lib.OthersKept
import Derived.Laws.RangeAny
import Derived.Test.YtfgapmfjfienhaaGreatDoorPartB
import Derived.Lib.SmallJoins
/- Places in package cmd: bytes that come, all that is left. -/
namespace Go.Proofs.YtfgapmfjfienhaaGreatDoor
open Go.ChangeShapes Go.WideShapes Go.ChangeAt Go.RowKit Go.Maps Go.MapKept
set_option linter.unusedVariables false
set_option linter.unusedSimpArgs false
set_option maxRecDepth 100000
section
variable {T : TypeId} {s : ByteArray} {k j b : Nat} {m : List Value} {w w1 : World} {l : List UInt8}
theorem clone_any (s : ByteArray) (hs : s.size ≤ 1000000) (w : World) : Calls Tryz.prog 83 #[.string s] w fun e w' => e = .returned (.string s) ∧ Kp w w' := by
  have HC : Hid (Calls Tryz.prog 108 #[.string s] w fun e w' => e = .returned (.string s) ∧ Below w.heap.size w w') := Any.stringslite_Clone Tryz.laysM316 s w (by omega)
  go_enter Tryz.func83, Tryz.ntmps83
  go_wp2_with fail
  refine Calls.mono HC.out ?_
  rintro e w2 ⟨rfl, k⟩
  have HX : Hid (Kp w w2) := k
  clear HC k
  go_wp2_with fail
  go_ret
  exact ⟨rfl, HX.out⟩
theorem call_any (h : Pc T s k m b w) (hs : s.size ≤ 1000000) (hl : Lf s k l) :
    Calls Tryz.prog 81 #[.pointer (some ⟨b, 0, none⟩)] w fun e w' => e = .returned (.string ⟨l.toArray⟩) ∧ Fr (On b) w w' ∧ Pc T s s.size m b w' := by
  have HR : Hid _ := rest_any h hs hl
  have hsz : (⟨l.toArray⟩ : ByteArray).size ≤ 1000000 := by show l.toArray.size ≤ _; have := hl.len; simp; omega
  have HC : Hid (∀ z, Calls Tryz.prog 83 #[.string ⟨l.toArray⟩] z fun e w' => e = .returned (.string ⟨l.toArray⟩) ∧ Kp z w') := fun z => clone_any _ hsz z
  have H0 : Hid (∀ z, Kp w z → Fr (On b) w z ∧ Pc T s k m b z) := fun z q => ⟨Fr.of_below q, h.kp q⟩
  clear h hl hsz
  go_enter Tryz.func81, Tryz.ntmps81
  go_wp2_with fail
  refine Calls.mono HR.out ?_
  rintro e w2 ⟨rfl, q, rfl⟩
  clear HR
  go_wp2_with fail
  refine Calls.mono (HC.out _) ?_
  rintro e w3 ⟨rfl, k3⟩
  obtain ⟨x1, x2⟩ := H0.out w3 (kp_trans (kp_drewN _ q) k3)
  have HX : Hid (Fr (On b) w w3 ∧ Pc T s k m b w3) := ⟨x1, x2⟩
  clear HC H0 k3 x1 x2
  have c0 := HX.out.2.c0
  have c1 := HX.out.2.c1
  have f1 := HX.out.2.f1
  go_wp2_with fail
  go_ret
  exact ⟨rfl, HX.out.1.trans (fr_set _ _ _ _), HX.out.2.to s.size⟩
end
end Go.Proofs.YtfgapmfjfienhaaGreatDoor
/- Places in package cmd: bytes that come; up to a sign. -/
namespace Go.Proofs.YtfgapmfjfienhaaGreatDoor
open Go.ChangeShapes Go.WideShapes Go.ChangeAt Go.RowKit Go.Maps Go.MapKept
set_option linter.unusedVariables false
set_option linter.unusedSimpArgs false
set_option maxRecDepth 100000
def itp (r : Nat) (w : World) : Nat := match w.heap[r]? with
  | some (.stringIter _ p) => p
  | _ => 0
theorem itp_of {r p : Nat} {X : ByteArray} {w : World} (h : w.heap[r]? = some (.stringIter X p)) : itp r w = p := by unfold itp; rw [h]
section
variable {T : TypeId} {s : ByteArray} {k j b : Nat} {m : List Value} {w w1 : World} {l : List UInt8}
set_option maxHeartbeats 8000000 in
theorem cupto_any (h : Pc T s k m b w) (hs : s.size ≤ 1000000) (hl : Lf s k l) (g : UInt8) :
    Calls Tryz.prog 80 #[.pointer (some ⟨b, 0, none⟩), .int .u8 (g.toNat : Int)] w fun e w' => e = .returned (.string ⟨(upL g l).1.toArray⟩) ∧ Fr (On b) w w' ∧ Pc T s (s.size - (upL g l).2.length) m b w' := by
  have HC : Hid (∀ q, Calls Tryz.prog 107 #[.string s, .int .i64 (k : Int), .int .u8 (g.toNat : Int)] (w.drewN q) fun e w' => e = .returned (.tuple #[.string ⟨(upL g l).1.toArray⟩, .int .i64 ((s.size - (upL g l).2.length : Nat) : Int)]) ∧ Kp w w') := fun q => by
    refine (asplit_any s hs hl g (w.drewN q)).mono ?_
    rintro e w' ⟨rfl, k⟩
    exact ⟨rfl, kp_trans (kp_drewN _ q) k⟩
  have HFJ : Hid (∀ w2, Kp w w2 → Fr (On b) w w2 ∧ Pc T s k m b w2) := fun w2 k2 => ⟨Fr.of_below k2, h.kp k2⟩
  have c0 := h.c0; have c1 := h.c1
  obtain ⟨U, hU⟩ : ∃ U, upL g l = U := ⟨_, rfl⟩
  obtain ⟨N, hN⟩ : ∃ N, s.size - U.2.length = N := ⟨_, rfl⟩
  rw [hU, hN] at HC
  rw [hU, hN]
  clear h hl hU hN
  go_enter Tryz.func80, Tryz.ntmps80
  go_upto_region 1 with fail
  refine wp_region_noPanic ?_
  refine wp_region_held_drew (S := fun z => z.cell? ⟨b, 0, none⟩ = some (.string s) ∧ z.cell? ⟨b, 1, none⟩ = some (.int .i64 (k : Int))) (by kernel_rfl) (⟨kp_cell (kp_drew _) c0, kp_cell (kp_drew _) c1⟩) (fun hHeld => ?_)
  refine takeAt 0 (some 8) ?_ rfl rfl (by kernel_rfl) (by kernel_rfl) (by kernel_rfl) (fun _ _ _ h => h) (Or.inl ⟨by rfl, ?_⟩) hHeld ?_
  rotate_left
  · intro w hSw
    go_simp <;> with_reducible rfl
  try simp only [Act.put, List.setIfInBounds_toArray, List.set_cons_zero, List.set_cons_succ]
  refine takeAt 1 (some 9) ?_ rfl rfl (by kernel_rfl) (by kernel_rfl) (by kernel_rfl) (fun _ _ _ h => h) (Or.inl ⟨by rfl, ?_⟩) hHeld ?_
  rotate_left
  · intro w hSw
    go_simp <;> with_reducible rfl
  try simp only [Act.put, List.setIfInBounds_toArray, List.set_cons_zero, List.set_cons_succ]
  refine takeAt 2 (some 10) ?_ rfl rfl (by kernel_rfl) (by kernel_rfl) (by kernel_rfl) (fun _ _ _ h => h) (Or.inl ⟨by rfl, ?_⟩) hHeld ?_
  rotate_left
  · intro w hSw
    go_simp <;> with_reducible rfl
  try simp only [Act.put, List.setIfInBounds_toArray, List.set_cons_zero, List.set_cons_succ]
  refine takeAt 3 (some 11) ?_ rfl rfl (by kernel_rfl) (by kernel_rfl) (by kernel_rfl) (fun _ _ _ h => h) (Or.inl ⟨by rfl, ?_⟩) hHeld ?_
  rotate_left
  · intro w hSw
    go_simp <;> with_reducible rfl
  try simp only [Act.put, List.setIfInBounds_toArray, List.set_cons_zero, List.set_cons_succ]
  refine takeAt 4 (some 12) ?_ rfl rfl (by kernel_rfl) (by kernel_rfl) (by kernel_rfl) (fun _ _ _ h => h) (Or.inl ⟨by rfl, ?_⟩) hHeld ?_
  rotate_left
  · intro w hSw
    go_simp <;> with_reducible rfl
  try simp only [Act.put, List.setIfInBounds_toArray, List.set_cons_zero, List.set_cons_succ]
  refine takeAt 5 (some 13) ?_ rfl rfl (by kernel_rfl) (by kernel_rfl) (by kernel_rfl) (fun _ _ _ h => h) (Or.inl ⟨by rfl, ?_⟩) hHeld ?_
  rotate_left
  · intro w hSw
    go_simp <;> with_reducible rfl
  try simp only [Act.put, List.setIfInBounds_toArray, List.set_cons_zero, List.set_cons_succ]
  refine takeAt 6 (some 14) ?_ rfl rfl (by kernel_rfl) (by kernel_rfl) (by kernel_rfl) (fun _ _ _ h => h) (Or.inl ⟨by rfl, ?_⟩) hHeld ?_
  rotate_left
  · intro w hSw
    go_simp <;> with_reducible rfl
  try simp only [Act.put, List.setIfInBounds_toArray, List.set_cons_zero, List.set_cons_succ]
  refine takeAt 7 (some 15) ?_ rfl rfl (by kernel_rfl) (by kernel_rfl) (by kernel_rfl) (fun _ _ _ h => h) (Or.inl ⟨by rfl, ?_⟩) hHeld ?_
  rotate_left
  · intro w hSw
    go_simp <;> with_reducible rfl
  try simp only [Act.put, List.setIfInBounds_toArray, List.set_cons_zero, List.set_cons_succ]
  refine takeAt 8 (some 16) ?_ rfl rfl (by kernel_rfl) (by kernel_rfl) (by kernel_rfl) (fun _ _ _ h => h) (Or.inl ⟨by rfl, ?_⟩) hHeld ?_
  rotate_left
  · intro w hSw
    go_simp <;> with_reducible rfl
  try simp only [Act.put, List.setIfInBounds_toArray, List.set_cons_zero, List.set_cons_succ]
  refine wpAnyH_ready (rs := [9]) (by kernel_rfl) (by simp) ?_
  refine AllReadyH.cons rfl (fun K hK => ?_) AllReadyH.nil
  refine call_stepV 17 107 (vals := #[.string s, .int .i64 (k : Int), .int .u8 (g.toNat : Int)]) rfl rfl rfl (by simp [Act.eval]) Tryz.func107 (by kernel_rfl) (by kernel_rfl) ?_
  refine Calls.mono (HC.out 1) ?_
  rintro e w2 ⟨rfl, kk⟩
  obtain ⟨xf, xp⟩ := HFJ.out w2 kk
  have HX : Hid (Fr (On b) w w2 ∧ Pc T s k m b w2) := ⟨xf, xp⟩
  clear xf xp kk
  refine ⟨_, rfl, ?_⟩
  refine hK.out _ _ ⟨HX.out.2.c0, HX.out.2.c1⟩ (fun hHeld => ?_)
  clear hK K
  try simp only [Act.put, List.setIfInBounds_toArray, List.set_cons_zero, List.set_cons_succ]
  refine takeAt 10 (some 7) ?_ rfl rfl (by kernel_rfl) (by kernel_rfl) (by kernel_rfl) (fun _ _ _ h => h) (Or.inl ⟨by rfl, ?_⟩) hHeld ?_
  rotate_left
  · intro w hSw
    go_simp <;> with_reducible rfl
  try simp only [Act.put, List.setIfInBounds_toArray, List.set_cons_zero, List.set_cons_succ]
  refine takeAt 11 (some 18) ?_ rfl rfl (by kernel_rfl) (by kernel_rfl) (by kernel_rfl) (fun _ _ _ h => h) (Or.inl ⟨by rfl, ?_⟩) hHeld ?_
  rotate_left
  · intro w hSw
    go_simp <;> with_reducible rfl
  try simp only [Act.put, List.setIfInBounds_toArray, List.set_cons_zero, List.set_cons_succ]
  refine takeAt 12 (some 19) ?_ rfl rfl (by kernel_rfl) (by kernel_rfl) (by kernel_rfl) (fun _ _ _ h => h) (Or.inl ⟨by rfl, ?_⟩) hHeld ?_
  rotate_left
  · intro w hSw
    go_simp <;> with_reducible rfl
  try simp only [Act.put, List.setIfInBounds_toArray, List.set_cons_zero, List.set_cons_succ]
  refine takeAt 13 (some 5) ?_ rfl rfl (by kernel_rfl) (by kernel_rfl) (by kernel_rfl) (fun _ _ _ h => h) (Or.inl ⟨by rfl, ?_⟩) hHeld ?_
  rotate_left
  · intro w hSw
    go_simp <;> with_reducible rfl
  try simp only [Act.put, List.setIfInBounds_toArray, List.set_cons_zero, List.set_cons_succ]
  refine takeAt 14 (some 6) ?_ rfl rfl (by kernel_rfl) (by kernel_rfl) (by kernel_rfl) (fun _ _ _ h => h) (Or.inl ⟨by rfl, ?_⟩) hHeld ?_
  rotate_left
  · intro w hSw
    go_simp <;> with_reducible rfl
  try simp only [Act.put, List.setIfInBounds_toArray, List.set_cons_zero, List.set_cons_succ]
  refine wpAnyH_done (by kernel_rfl) ?_ _
  refine NoPanic.normal ?_
  clear HC HFJ c0 c1 hHeld
  have c0 := HX.out.2.c0
  have c1 := HX.out.2.c1
  have f1 := HX.out.2.f1
  go_wp2_with fail
  go_ret
  exact ⟨rfl, HX.out.1.trans (fr_set _ _ _ _), HX.out.2.to N⟩
theorem dig_hi : ∀ c : Fin 256, digF c.val = true → c.val < 128 := by decide +kernel
theorem blk_hi : ∀ c : Fin 256, blkF c.val = true → c.val < 128 := by decide +kernel
theorem flg_hi : ∀ c : Fin 256, flgF c.val = true → c.val < 128 := by decide +kernel
set_option maxHeartbeats 16000000 in
theorem run_dig (h : Pc T s k m b w) (hs : s.size ≤ 1000000) (hl : Lf s k l) :
    Calls Tryz.prog 66 #[.pointer (some ⟨b, 0, none⟩), .func (.func 75) #[] #[]] w fun e w' => e = .returned (.string ⟨(l.takeWhile dgB).toArray⟩) ∧ Fr (On b) w w' ∧ Pc T s (s.size - (l.dropWhile dgB).length) m b w' := by
  have HP : Hid (∀ (c : Nat) z, c < 128 → Kp w z → Calls Tryz.prog 75 #[.int .u8 (c : Int)] z fun e w' => e = .returned (.bool (digF c)) ∧ Kp z w') := fun c z h1 h2 => cdig_any (c : Int) z
  have HR : Hid _ := rest_any h hs hl
  obtain ⟨X, hX⟩ : ∃ X : ByteArray, (⟨l.toArray⟩ : ByteArray) = X := ⟨_, rfl⟩
  have hXs : X.size = l.length := by rw [← hX]; show l.toArray.size = _; simp
  rw [hX] at HR
  obtain ⟨n, hn⟩ : ∃ n, (l.takeWhile dgB).length = n := ⟨_, rfl⟩
  have hnl : n ≤ l.length := by rw [← hn]; exact tw_le l
  have hlk := hl.len
  have hk := hl.1
  have HIn : Hid (∀ i (hi : i < X.size), i < n → (X[i]'hi).toNat < 128 ∧ digF (X[i]'hi).toNat = true) := fun i hi h2 => by
    obtain ⟨c, q1, q2⟩ := tw_in (p := dgB) l i (by rw [hn]; exact h2)
    have e : X[i]'hi = c := by
      subst hX
      have : l[i]? = some ((⟨l.toArray⟩ : ByteArray)[i]'hi) := by
        rw [List.getElem?_eq_getElem (by rw [← hXs]; exact hi)]; rfl
      rw [q1] at this; cases this; rfl
    rw [e]
    exact ⟨dig_hi ⟨c.toNat, UInt8.toNat_lt c⟩ q2, q2⟩
  have HOut : Hid (∀ (hi : n < X.size), (X[n]'hi).toNat < 128 → digF (X[n]'hi).toNat = false) := fun hi h2 => by
    have q1 : l[(l.takeWhile dgB).length]? = some (X[n]'hi) := by
      subst hX
      rw [hn, List.getElem?_eq_getElem (by rw [← hXs]; exact hi)]; rfl
    have q2 := tw_out (p := dgB) l _ q1
    exact q2
  have HT : Hid (X.extract 0 n = ⟨(l.takeWhile dgB).toArray⟩ ∧ (n = l.length → X = ⟨(l.takeWhile dgB).toArray⟩) ∧ s.size - (l.dropWhile dgB).length = k + n) := by
    have hap := List.takeWhile_append_dropWhile (p := dgB) (l := l)
    have hlen : (l.takeWhile dgB).length + (l.dropWhile dgB).length = l.length := by rw [← List.length_append, hap]
    have htk : l.take n = l.takeWhile dgB := by
      rw [← hn]
      have q : ∀ a d : List UInt8, a ++ d = l → l.take a.length = a := fun a d e => by rw [← e]; exact List.take_left
      exact q _ _ hap
    refine ⟨?_, fun e => ?_, by omega⟩
    · apply ByteArray.ext
      rw [ByteArray.data_extract]
      apply Array.ext'
      rw [Array.toList_extract, List.extract_eq_take_drop, ← hX]
      simpa using htk
    · rw [← hX, ← htk, e, List.take_length]
  have H0 : Hid (∀ z, Kp w z → Fr (On b) w z ∧ Pc T s k m b z) := fun z q => ⟨Fr.of_below q, h.kp q⟩
  obtain ⟨N, hN⟩ : ∃ N, s.size - (l.dropWhile dgB).length = N := ⟨_, rfl⟩
  obtain ⟨R, hR⟩ : ∃ R : ByteArray, (⟨(l.takeWhile dgB).toArray⟩ : ByteArray) = R := ⟨_, rfl⟩
  rw [hN, hR] at HT
  rw [hN, hR]
  have hn6 : n ≤ 1000000 := by omega
  have hnX : n ≤ X.size := by omega
  have HXl : Hid (X.size = l.length ∧ k + l.length = s.size) := ⟨hXs, by omega⟩
  clear h hl hX hXs hn hnl hlk hN hR hk
  go_enter Tryz.func66, Tryz.ntmps66
  go_wp2_with fail
  refine Calls.mono HR.out ?_
  rintro e w2 ⟨rfl, q, rfl⟩
  clear HR
  go_wp2_with fail
  have hds : (w.drewN q).heap.size = w.heap.size := by rw [drewN_heap]
  have HI : Hid (Kp w ((w.drewN q).iter X 0) ∧ ((w.drewN q).iter X 0).heap[w.heap.size]? = some (.stringIter X 0)) := by
    have e := World.iter_heap (w.drewN q) X 0
    rw [hds] at e
    exact ⟨kp_trans (kp_drewN w q) (kp_alloc _ _), e⟩
  clear hds
  go_loopw [] (fun wr => ∃ pos, pos ≤ n ∧ Hid (Kp w wr ∧ wr.heap[w.heap.size]? = some (.stringIter X pos))) (fun wr => n + 1 - itp w.heap.size wr)
  case atStart => exact ⟨0, Nat.zero_le _, HI.out.1, HI.out.2⟩
  case round =>
    clear HI
    obtain ⟨pos, hpn, HJ⟩ := hrel
    have hit := itp_of HJ.out.2
    by_cases hlt : pos < n
    · as_aux_lemma =>
      have hpX : pos < X.size := by omega
      obtain ⟨c, hc⟩ : ∃ c, (X[pos]'hpX).toNat = c := ⟨_, rfl⟩
      have hin := HIn.out pos hpX hlt
      rw [hc] at hin
      have hc128 := hin.1
      have hcx := fun ty => Lib.run_next_ascii_at (P := Tryz.prog) wr w.heap.size X pos ty HJ.out.2 hpX (by rw [hc]; exact hc128)
      rw [hc] at hcx
      have g1 : decide ((c : Int) ≥ 128) = false := decide_eq_false (by omega)
      have g2 : decide ((128 : Int) ≤ (c : Int)) = false := decide_eq_false (by omega)
      have g3 : decide (128 ≤ c) = false := decide_eq_false (by omega)
      have gw : IntKind.u8.wrap (c : Int) = (c : Int) := by
        show (c : Int) % 256 = c
        omega
      have HW : Hid (Kp w (wr.iterAt w.heap.size X (pos + 1)) ∧ (wr.iterAt w.heap.size X (pos + 1)).heap[w.heap.size]? = some (.stringIter X (pos + 1))) := ⟨Lib.below_iterAt HJ.out.1 (Nat.le_refl _) X (pos + 1), Lib.iterAt_heap wr w.heap.size X pos (pos + 1) HJ.out.2⟩
      have HC : Hid (Calls Tryz.prog 75 #[.int .u8 (c : Int)] (wr.iterAt w.heap.size X (pos + 1)) fun e w' => e = .returned (.bool true) ∧ Hid (Kp w w' ∧ w'.heap[w.heap.size]? = some (.stringIter X (pos + 1)))) := by
        refine (HP.out c _ hc128 HW.out.1).mono ?_
        rintro e w' ⟨rfl, k⟩
        exact ⟨by rw [hin.2], kp_trans HW.out.1 k, by rw [k.block w.heap.size (Array.getElem?_eq_some_iff.1 HW.out.2).1]; exact HW.out.2⟩
      clear HJ hc hin HW
      go_wp2_with fail
      refine Calls.mono HC.out ?_
      rintro e w3 ⟨rfl, HD⟩
      clear HC
      go_wp2_with fail
      have hit2 := itp_of HD.out.2
      exact ⟨⟨pos + 1, by omega, HD.out⟩, by rw [hit2, hit]; omega⟩
    · obtain rfl : pos = n := by omega
      by_cases hend : pos = X.size
      · as_aux_lemma =>
        have hcx := fun ty => Lib.run_next_end_at (P := Tryz.prog) wr w.heap.size X pos ty HJ.out.2 (by omega)
        obtain ⟨hf, hp⟩ := H0.out wr HJ.out.1
        have HX : Hid (Fr (On b) w wr ∧ Pc T s k m b wr) := ⟨hf, hp⟩
        have c0 := hp.c0
        have c1 := hp.c1
        have f1 := hp.f1
        have HE : Hid (X = R ∧ N = s.size) := ⟨HT.out.2.1 (by have := HXl.out.1; omega), by have := HT.out.2.2; have := HXl.out; omega⟩
        clear hf hp HJ hit hlt HIn HOut
        go_wp2_with fail
        go_ret
        exact ⟨by rw [← HE.out.1]; rfl, HX.out.1.trans (fr_set _ _ _ _), by rw [HE.out.2]; exact HX.out.2.to s.size⟩
      · have hpX : pos < X.size := by omega
        have g5 : decide (pos ≤ X.size) = true := decide_eq_true (by omega)
        by_cases h128 : (X[pos]'hpX).toNat < 128
        · as_aux_lemma =>
          have hfl := HOut.out hpX h128
          obtain ⟨c, hc⟩ : ∃ c, (X[pos]'hpX).toNat = c := ⟨_, rfl⟩
          have hcx := fun ty => Lib.run_next_ascii_at (P := Tryz.prog) wr w.heap.size X pos ty HJ.out.2 hpX h128
          rw [hc] at hcx hfl h128
          have g1 : decide ((c : Int) ≥ 128) = false := decide_eq_false (by omega)
          have g2 : decide ((128 : Int) ≤ (c : Int)) = false := decide_eq_false (by omega)
          have g3 : decide (128 ≤ c) = false := decide_eq_false (by omega)
          have gw : IntKind.u8.wrap (c : Int) = (c : Int) := by
            show (c : Int) % 256 = c
            omega
          have HW : Hid (Kp w (wr.iterAt w.heap.size X (pos + 1))) := Lib.below_iterAt HJ.out.1 (Nat.le_refl _) X (pos + 1)
          have HC : Hid (Calls Tryz.prog 75 #[.int .u8 (c : Int)] (wr.iterAt w.heap.size X (pos + 1)) fun e w' => e = .returned (.bool false) ∧ Hid (Fr (On b) w w' ∧ Pc T s k m b w')) := by
            refine (HP.out c _ h128 HW.out).mono ?_
            rintro e w' ⟨rfl, k⟩
            exact ⟨by rw [hfl], H0.out w' (kp_trans HW.out k)⟩
          have HE : Hid (X.extract 0 pos = R ∧ N = k + pos) := ⟨HT.out.1, HT.out.2.2⟩
          clear HJ hc hfl HW hit hlt hend HIn HOut
          go_wp2_with fail
          refine Calls.mono HC.out ?_
          rintro e w3 ⟨rfl, HD⟩
          clear HC
          have c0 := HD.out.2.c0
          have c1 := HD.out.2.c1
          have f1 := HD.out.2.f1
          have hk6 := HXl.out
          go_wp2_with fail
          go_ret
          exact ⟨by rw [← HE.out.1]; rfl, HD.out.1.trans (fr_set _ _ _ _), by rw [HE.out.2]; exact HD.out.2.to (k + pos)⟩
        · as_aux_lemma =>
          have hh := decode_high X pos hpX (by omega)
          have hcx := fun ty => Lib.run_next_any_at (P := Tryz.prog) wr w.heap.size X pos ty HJ.out.2 hpX
          obtain ⟨D, hD⟩ : ∃ D, Utf8.decode X pos = D := ⟨_, rfl⟩
          obtain ⟨d1, d2⟩ := D
          rw [hD] at hcx hh
          have hd := hh.1
          simp only at hcx hd
          have g1 : decide ((d1 : Int) ≥ 128) = true := decide_eq_true (by omega)
          have g2 : decide ((128 : Int) ≤ (d1 : Int)) = true := decide_eq_true (by omega)
          have g3 : decide (128 ≤ d1) = true := decide_eq_true (by omega)
          obtain ⟨hf, hp⟩ := H0.out _ (Lib.below_iterAt HJ.out.1 (Nat.le_refl _) X (pos + d2))
          have HX : Hid (Fr (On b) w (wr.iterAt w.heap.size X (pos + d2)) ∧ Pc T s k m b (wr.iterAt w.heap.size X (pos + d2))) := ⟨hf, hp⟩
          have c0 := hp.c0
          have c1 := hp.c1
          have f1 := hp.f1
          have HE : Hid (X.extract 0 pos = R ∧ N = k + pos) := ⟨HT.out.1, HT.out.2.2⟩
          have hk6 := HXl.out
          clear hf hp HJ hit hlt hend HIn HOut hD hh h128
          go_wp2_with fail
          go_ret
          exact ⟨by rw [← HE.out.1]; rfl, HX.out.1.trans (fr_set _ _ _ _), by rw [HE.out.2]; exact HX.out.2.to (k + pos)⟩
set_option maxHeartbeats 16000000 in
theorem run_blk (h : Pc T s k m b w) (hs : s.size ≤ 1000000) (hl : Lf s k l) :
    Calls Tryz.prog 66 #[.pointer (some ⟨b, 0, none⟩), .func (.func 67) #[] #[]] w fun e w' => e = .returned (.string ⟨(l.takeWhile bkB).toArray⟩) ∧ Fr (On b) w w' ∧ Pc T s (s.size - (l.dropWhile bkB).length) m b w' := by
  have HP : Hid (∀ (c : Nat) z, c < 128 → Kp w z → Calls Tryz.prog 67 #[.int .u8 (c : Int)] z fun e w' => e = .returned (.bool (blkF c)) ∧ Kp z w') := fun c z h1 h2 => cblk_any (c : Int) z
  have HR : Hid _ := rest_any h hs hl
  obtain ⟨X, hX⟩ : ∃ X : ByteArray, (⟨l.toArray⟩ : ByteArray) = X := ⟨_, rfl⟩
  have hXs : X.size = l.length := by rw [← hX]; show l.toArray.size = _; simp
  rw [hX] at HR
  obtain ⟨n, hn⟩ : ∃ n, (l.takeWhile bkB).length = n := ⟨_, rfl⟩
  have hnl : n ≤ l.length := by rw [← hn]; exact tw_le l
  have hlk := hl.len
  have hk := hl.1
  have HIn : Hid (∀ i (hi : i < X.size), i < n → (X[i]'hi).toNat < 128 ∧ blkF (X[i]'hi).toNat = true) := fun i hi h2 => by
    obtain ⟨c, q1, q2⟩ := tw_in (p := bkB) l i (by rw [hn]; exact h2)
    have e : X[i]'hi = c := by
      subst hX
      have : l[i]? = some ((⟨l.toArray⟩ : ByteArray)[i]'hi) := by
        rw [List.getElem?_eq_getElem (by rw [← hXs]; exact hi)]; rfl
      rw [q1] at this; cases this; rfl
    rw [e]
    exact ⟨blk_hi ⟨c.toNat, UInt8.toNat_lt c⟩ q2, q2⟩
  have HOut : Hid (∀ (hi : n < X.size), (X[n]'hi).toNat < 128 → blkF (X[n]'hi).toNat = false) := fun hi h2 => by
    have q1 : l[(l.takeWhile bkB).length]? = some (X[n]'hi) := by
      subst hX
      rw [hn, List.getElem?_eq_getElem (by rw [← hXs]; exact hi)]; rfl
    have q2 := tw_out (p := bkB) l _ q1
    exact q2
  have HT : Hid (X.extract 0 n = ⟨(l.takeWhile bkB).toArray⟩ ∧ (n = l.length → X = ⟨(l.takeWhile bkB).toArray⟩) ∧ s.size - (l.dropWhile bkB).length = k + n) := by
    have hap := List.takeWhile_append_dropWhile (p := bkB) (l := l)
    have hlen : (l.takeWhile bkB).length + (l.dropWhile bkB).length = l.length := by rw [← List.length_append, hap]
    have htk : l.take n = l.takeWhile bkB := by
      rw [← hn]
      have q : ∀ a d : List UInt8, a ++ d = l → l.take a.length = a := fun a d e => by rw [← e]; exact List.take_left
      exact q _ _ hap
    refine ⟨?_, fun e => ?_, by omega⟩
    · apply ByteArray.ext
      rw [ByteArray.data_extract]
      apply Array.ext'
      rw [Array.toList_extract, List.extract_eq_take_drop, ← hX]
      simpa using htk
    · rw [← hX, ← htk, e, List.take_length]
  have H0 : Hid (∀ z, Kp w z → Fr (On b) w z ∧ Pc T s k m b z) := fun z q => ⟨Fr.of_below q, h.kp q⟩
  obtain ⟨N, hN⟩ : ∃ N, s.size - (l.dropWhile bkB).length = N := ⟨_, rfl⟩
  obtain ⟨R, hR⟩ : ∃ R : ByteArray, (⟨(l.takeWhile bkB).toArray⟩ : ByteArray) = R := ⟨_, rfl⟩
  rw [hN, hR] at HT
  rw [hN, hR]
  have hn6 : n ≤ 1000000 := by omega
  have hnX : n ≤ X.size := by omega
  have HXl : Hid (X.size = l.length ∧ k + l.length = s.size) := ⟨hXs, by omega⟩
  clear h hl hX hXs hn hnl hlk hN hR hk
  go_enter Tryz.func66, Tryz.ntmps66
  go_wp2_with fail
  refine Calls.mono HR.out ?_
  rintro e w2 ⟨rfl, q, rfl⟩
  clear HR
  go_wp2_with fail
  have hds : (w.drewN q).heap.size = w.heap.size := by rw [drewN_heap]
  have HI : Hid (Kp w ((w.drewN q).iter X 0) ∧ ((w.drewN q).iter X 0).heap[w.heap.size]? = some (.stringIter X 0)) := by
    have e := World.iter_heap (w.drewN q) X 0
    rw [hds] at e
    exact ⟨kp_trans (kp_drewN w q) (kp_alloc _ _), e⟩
  clear hds
  go_loopw [] (fun wr => ∃ pos, pos ≤ n ∧ Hid (Kp w wr ∧ wr.heap[w.heap.size]? = some (.stringIter X pos))) (fun wr => n + 1 - itp w.heap.size wr)
  case atStart => exact ⟨0, Nat.zero_le _, HI.out.1, HI.out.2⟩
  case round =>
    clear HI
    obtain ⟨pos, hpn, HJ⟩ := hrel
    have hit := itp_of HJ.out.2
    by_cases hlt : pos < n
    · as_aux_lemma =>
      have hpX : pos < X.size := by omega
      obtain ⟨c, hc⟩ : ∃ c, (X[pos]'hpX).toNat = c := ⟨_, rfl⟩
      have hin := HIn.out pos hpX hlt
      rw [hc] at hin
      have hc128 := hin.1
      have hcx := fun ty => Lib.run_next_ascii_at (P := Tryz.prog) wr w.heap.size X pos ty HJ.out.2 hpX (by rw [hc]; exact hc128)
      rw [hc] at hcx
      have g1 : decide ((c : Int) ≥ 128) = false := decide_eq_false (by omega)
      have g2 : decide ((128 : Int) ≤ (c : Int)) = false := decide_eq_false (by omega)
      have g3 : decide (128 ≤ c) = false := decide_eq_false (by omega)
      have gw : IntKind.u8.wrap (c : Int) = (c : Int) := by
        show (c : Int) % 256 = c
        omega
      have HW : Hid (Kp w (wr.iterAt w.heap.size X (pos + 1)) ∧ (wr.iterAt w.heap.size X (pos + 1)).heap[w.heap.size]? = some (.stringIter X (pos + 1))) := ⟨Lib.below_iterAt HJ.out.1 (Nat.le_refl _) X (pos + 1), Lib.iterAt_heap wr w.heap.size X pos (pos + 1) HJ.out.2⟩
      have HC : Hid (Calls Tryz.prog 67 #[.int .u8 (c : Int)] (wr.iterAt w.heap.size X (pos + 1)) fun e w' => e = .returned (.bool true) ∧ Hid (Kp w w' ∧ w'.heap[w.heap.size]? = some (.stringIter X (pos + 1)))) := by
        refine (HP.out c _ hc128 HW.out.1).mono ?_
        rintro e w' ⟨rfl, k⟩
        exact ⟨by rw [hin.2], kp_trans HW.out.1 k, by rw [k.block w.heap.size (Array.getElem?_eq_some_iff.1 HW.out.2).1]; exact HW.out.2⟩
      clear HJ hc hin HW
      go_wp2_with fail
      refine Calls.mono HC.out ?_
      rintro e w3 ⟨rfl, HD⟩
      clear HC
      go_wp2_with fail
      have hit2 := itp_of HD.out.2
      exact ⟨⟨pos + 1, by omega, HD.out⟩, by rw [hit2, hit]; omega⟩
    · obtain rfl : pos = n := by omega
      by_cases hend : pos = X.size
      · as_aux_lemma =>
        have hcx := fun ty => Lib.run_next_end_at (P := Tryz.prog) wr w.heap.size X pos ty HJ.out.2 (by omega)
        obtain ⟨hf, hp⟩ := H0.out wr HJ.out.1
        have HX : Hid (Fr (On b) w wr ∧ Pc T s k m b wr) := ⟨hf, hp⟩
        have c0 := hp.c0
        have c1 := hp.c1
        have f1 := hp.f1
        have HE : Hid (X = R ∧ N = s.size) := ⟨HT.out.2.1 (by have := HXl.out.1; omega), by have := HT.out.2.2; have := HXl.out; omega⟩
        clear hf hp HJ hit hlt HIn HOut
        go_wp2_with fail
        go_ret
        exact ⟨by rw [← HE.out.1]; rfl, HX.out.1.trans (fr_set _ _ _ _), by rw [HE.out.2]; exact HX.out.2.to s.size⟩
      · have hpX : pos < X.size := by omega
        have g5 : decide (pos ≤ X.size) = true := decide_eq_true (by omega)
        by_cases h128 : (X[pos]'hpX).toNat < 128
        · as_aux_lemma =>
          have hfl := HOut.out hpX h128
          obtain ⟨c, hc⟩ : ∃ c, (X[pos]'hpX).toNat = c := ⟨_, rfl⟩
          have hcx := fun ty => Lib.run_next_ascii_at (P := Tryz.prog) wr w.heap.size X pos ty HJ.out.2 hpX h128
          rw [hc] at hcx hfl h128
          have g1 : decide ((c : Int) ≥ 128) = false := decide_eq_false (by omega)
          have g2 : decide ((128 : Int) ≤ (c : Int)) = false := decide_eq_false (by omega)
          have g3 : decide (128 ≤ c) = false := decide_eq_false (by omega)
          have gw : IntKind.u8.wrap (c : Int) = (c : Int) := by
            show (c : Int) % 256 = c
            omega
          have HW : Hid (Kp w (wr.iterAt w.heap.size X (pos + 1))) := Lib.below_iterAt HJ.out.1 (Nat.le_refl _) X (pos + 1)
          have HC : Hid (Calls Tryz.prog 67 #[.int .u8 (c : Int)] (wr.iterAt w.heap.size X (pos + 1)) fun e w' => e = .returned (.bool false) ∧ Hid (Fr (On b) w w' ∧ Pc T s k m b w')) := by
            refine (HP.out c _ h128 HW.out).mono ?_
            rintro e w' ⟨rfl, k⟩
            exact ⟨by rw [hfl], H0.out w' (kp_trans HW.out k)⟩
          have HE : Hid (X.extract 0 pos = R ∧ N = k + pos) := ⟨HT.out.1, HT.out.2.2⟩
          clear HJ hc hfl HW hit hlt hend HIn HOut
          go_wp2_with fail
          refine Calls.mono HC.out ?_
          rintro e w3 ⟨rfl, HD⟩
          clear HC
          have c0 := HD.out.2.c0
          have c1 := HD.out.2.c1
          have f1 := HD.out.2.f1
          have hk6 := HXl.out
          go_wp2_with fail
          go_ret
          exact ⟨by rw [← HE.out.1]; rfl, HD.out.1.trans (fr_set _ _ _ _), by rw [HE.out.2]; exact HD.out.2.to (k + pos)⟩
        · as_aux_lemma =>
          have hh := decode_high X pos hpX (by omega)
          have hcx := fun ty => Lib.run_next_any_at (P := Tryz.prog) wr w.heap.size X pos ty HJ.out.2 hpX
          obtain ⟨D, hD⟩ : ∃ D, Utf8.decode X pos = D := ⟨_, rfl⟩
          obtain ⟨d1, d2⟩ := D
          rw [hD] at hcx hh
          have hd := hh.1
          simp only at hcx hd
          have g1 : decide ((d1 : Int) ≥ 128) = true := decide_eq_true (by omega)
          have g2 : decide ((128 : Int) ≤ (d1 : Int)) = true := decide_eq_true (by omega)
          have g3 : decide (128 ≤ d1) = true := decide_eq_true (by omega)
          obtain ⟨hf, hp⟩ := H0.out _ (Lib.below_iterAt HJ.out.1 (Nat.le_refl _) X (pos + d2))
          have HX : Hid (Fr (On b) w (wr.iterAt w.heap.size X (pos + d2)) ∧ Pc T s k m b (wr.iterAt w.heap.size X (pos + d2))) := ⟨hf, hp⟩
          have c0 := hp.c0
          have c1 := hp.c1
          have f1 := hp.f1
          have HE : Hid (X.extract 0 pos = R ∧ N = k + pos) := ⟨HT.out.1, HT.out.2.2⟩
          have hk6 := HXl.out
          clear hf hp HJ hit hlt hend HIn HOut hD hh h128
          go_wp2_with fail
          go_ret
          exact ⟨by rw [← HE.out.1]; rfl, HX.out.1.trans (fr_set _ _ _ _), by rw [HE.out.2]; exact HX.out.2.to (k + pos)⟩
set_option maxHeartbeats 16000000 in
theorem run_flg (h : Pc T s k m b w) (hs : s.size ≤ 1000000) (hl : Lf s k l) :
    Calls Tryz.prog 66 #[.pointer (some ⟨b, 0, none⟩), .func (.func 84) #[] #[]] w fun e w' => e = .returned (.string ⟨(l.takeWhile flB).toArray⟩) ∧ Fr (On b) w w' ∧ Pc T s (s.size - (l.dropWhile flB).length) m b w' := by
  have HP : Hid (∀ (c : Nat) z, c < 128 → Kp w z → Calls Tryz.prog 84 #[.int .u8 (c : Int)] z fun e w' => e = .returned (.bool (flgF c)) ∧ Kp z w') := fun c z h1 h2 => cflg_any c (by omega) z
  have HR : Hid _ := rest_any h hs hl
  obtain ⟨X, hX⟩ : ∃ X : ByteArray, (⟨l.toArray⟩ : ByteArray) = X := ⟨_, rfl⟩
  have hXs : X.size = l.length := by rw [← hX]; show l.toArray.size = _; simp
  rw [hX] at HR
  obtain ⟨n, hn⟩ : ∃ n, (l.takeWhile flB).length = n := ⟨_, rfl⟩
  have hnl : n ≤ l.length := by rw [← hn]; exact tw_le l
  have hlk := hl.len
  have hk := hl.1
  have HIn : Hid (∀ i (hi : i < X.size), i < n → (X[i]'hi).toNat < 128 ∧ flgF (X[i]'hi).toNat = true) := fun i hi h2 => by
    obtain ⟨c, q1, q2⟩ := tw_in (p := flB) l i (by rw [hn]; exact h2)
    have e : X[i]'hi = c := by
      subst hX
      have : l[i]? = some ((⟨l.toArray⟩ : ByteArray)[i]'hi) := by
        rw [List.getElem?_eq_getElem (by rw [← hXs]; exact hi)]; rfl
      rw [q1] at this; cases this; rfl
    rw [e]
    exact ⟨flg_hi ⟨c.toNat, UInt8.toNat_lt c⟩ q2, q2⟩
  have HOut : Hid (∀ (hi : n < X.size), (X[n]'hi).toNat < 128 → flgF (X[n]'hi).toNat = false) := fun hi h2 => by
    have q1 : l[(l.takeWhile flB).length]? = some (X[n]'hi) := by
      subst hX
      rw [hn, List.getElem?_eq_getElem (by rw [← hXs]; exact hi)]; rfl
    have q2 := tw_out (p := flB) l _ q1
    exact q2
  have HT : Hid (X.extract 0 n = ⟨(l.takeWhile flB).toArray⟩ ∧ (n = l.length → X = ⟨(l.takeWhile flB).toArray⟩) ∧ s.size - (l.dropWhile flB).length = k + n) := by
    have hap := List.takeWhile_append_dropWhile (p := flB) (l := l)
    have hlen : (l.takeWhile flB).length + (l.dropWhile flB).length = l.length := by rw [← List.length_append, hap]
    have htk : l.take n = l.takeWhile flB := by
      rw [← hn]
      have q : ∀ a d : List UInt8, a ++ d = l → l.take a.length = a := fun a d e => by rw [← e]; exact List.take_left
      exact q _ _ hap
    refine ⟨?_, fun e => ?_, by omega⟩
    · apply ByteArray.ext
      rw [ByteArray.data_extract]
      apply Array.ext'
      rw [Array.toList_extract, List.extract_eq_take_drop, ← hX]
      simpa using htk
    · rw [← hX, ← htk, e, List.take_length]
  have H0 : Hid (∀ z, Kp w z → Fr (On b) w z ∧ Pc T s k m b z) := fun z q => ⟨Fr.of_below q, h.kp q⟩
  obtain ⟨N, hN⟩ : ∃ N, s.size - (l.dropWhile flB).length = N := ⟨_, rfl⟩
  obtain ⟨R, hR⟩ : ∃ R : ByteArray, (⟨(l.takeWhile flB).toArray⟩ : ByteArray) = R := ⟨_, rfl⟩
  rw [hN, hR] at HT
  rw [hN, hR]
  have hn6 : n ≤ 1000000 := by omega
  have hnX : n ≤ X.size := by omega
  have HXl : Hid (X.size = l.length ∧ k + l.length = s.size) := ⟨hXs, by omega⟩
  clear h hl hX hXs hn hnl hlk hN hR hk
  go_enter Tryz.func66, Tryz.ntmps66
  go_wp2_with fail
  refine Calls.mono HR.out ?_
  rintro e w2 ⟨rfl, q, rfl⟩
  clear HR
  go_wp2_with fail
  have hds : (w.drewN q).heap.size = w.heap.size := by rw [drewN_heap]
  have HI : Hid (Kp w ((w.drewN q).iter X 0) ∧ ((w.drewN q).iter X 0).heap[w.heap.size]? = some (.stringIter X 0)) := by
    have e := World.iter_heap (w.drewN q) X 0
    rw [hds] at e
    exact ⟨kp_trans (kp_drewN w q) (kp_alloc _ _), e⟩
  clear hds
  go_loopw [] (fun wr => ∃ pos, pos ≤ n ∧ Hid (Kp w wr ∧ wr.heap[w.heap.size]? = some (.stringIter X pos))) (fun wr => n + 1 - itp w.heap.size wr)
  case atStart => exact ⟨0, Nat.zero_le _, HI.out.1, HI.out.2⟩
  case round =>
    clear HI
    obtain ⟨pos, hpn, HJ⟩ := hrel
    have hit := itp_of HJ.out.2
    by_cases hlt : pos < n
    · as_aux_lemma =>
      have hpX : pos < X.size := by omega
      obtain ⟨c, hc⟩ : ∃ c, (X[pos]'hpX).toNat = c := ⟨_, rfl⟩
      have hin := HIn.out pos hpX hlt
      rw [hc] at hin
      have hc128 := hin.1
      have hcx := fun ty => Lib.run_next_ascii_at (P := Tryz.prog) wr w.heap.size X pos ty HJ.out.2 hpX (by rw [hc]; exact hc128)
      rw [hc] at hcx
      have g1 : decide ((c : Int) ≥ 128) = false := decide_eq_false (by omega)
      have g2 : decide ((128 : Int) ≤ (c : Int)) = false := decide_eq_false (by omega)
      have g3 : decide (128 ≤ c) = false := decide_eq_false (by omega)
      have gw : IntKind.u8.wrap (c : Int) = (c : Int) := by
        show (c : Int) % 256 = c
        omega
      have HW : Hid (Kp w (wr.iterAt w.heap.size X (pos + 1)) ∧ (wr.iterAt w.heap.size X (pos + 1)).heap[w.heap.size]? = some (.stringIter X (pos + 1))) := ⟨Lib.below_iterAt HJ.out.1 (Nat.le_refl _) X (pos + 1), Lib.iterAt_heap wr w.heap.size X pos (pos + 1) HJ.out.2⟩
      have HC : Hid (Calls Tryz.prog 84 #[.int .u8 (c : Int)] (wr.iterAt w.heap.size X (pos + 1)) fun e w' => e = .returned (.bool true) ∧ Hid (Kp w w' ∧ w'.heap[w.heap.size]? = some (.stringIter X (pos + 1)))) := by
        refine (HP.out c _ hc128 HW.out.1).mono ?_
        rintro e w' ⟨rfl, k⟩
        exact ⟨by rw [hin.2], kp_trans HW.out.1 k, by rw [k.block w.heap.size (Array.getElem?_eq_some_iff.1 HW.out.2).1]; exact HW.out.2⟩
      clear HJ hc hin HW
      go_wp2_with fail
      refine Calls.mono HC.out ?_
      rintro e w3 ⟨rfl, HD⟩
      clear HC
      go_wp2_with fail
      have hit2 := itp_of HD.out.2
      exact ⟨⟨pos + 1, by omega, HD.out⟩, by rw [hit2, hit]; omega⟩
    · obtain rfl : pos = n := by omega
      by_cases hend : pos = X.size
      · as_aux_lemma =>
        have hcx := fun ty => Lib.run_next_end_at (P := Tryz.prog) wr w.heap.size X pos ty HJ.out.2 (by omega)
        obtain ⟨hf, hp⟩ := H0.out wr HJ.out.1
        have HX : Hid (Fr (On b) w wr ∧ Pc T s k m b wr) := ⟨hf, hp⟩
        have c0 := hp.c0
        have c1 := hp.c1
        have f1 := hp.f1
        have HE : Hid (X = R ∧ N = s.size) := ⟨HT.out.2.1 (by have := HXl.out.1; omega), by have := HT.out.2.2; have := HXl.out; omega⟩
        clear hf hp HJ hit hlt HIn HOut
        go_wp2_with fail
        go_ret
        exact ⟨by rw [← HE.out.1]; rfl, HX.out.1.trans (fr_set _ _ _ _), by rw [HE.out.2]; exact HX.out.2.to s.size⟩
      · have hpX : pos < X.size := by omega
        have g5 : decide (pos ≤ X.size) = true := decide_eq_true (by omega)
        by_cases h128 : (X[pos]'hpX).toNat < 128
        · as_aux_lemma =>
          have hfl := HOut.out hpX h128
          obtain ⟨c, hc⟩ : ∃ c, (X[pos]'hpX).toNat = c := ⟨_, rfl⟩
          have hcx := fun ty => Lib.run_next_ascii_at (P := Tryz.prog) wr w.heap.size X pos ty HJ.out.2 hpX h128
          rw [hc] at hcx hfl h128
          have g1 : decide ((c : Int) ≥ 128) = false := decide_eq_false (by omega)
          have g2 : decide ((128 : Int) ≤ (c : Int)) = false := decide_eq_false (by omega)
          have g3 : decide (128 ≤ c) = false := decide_eq_false (by omega)
          have gw : IntKind.u8.wrap (c : Int) = (c : Int) := by
            show (c : Int) % 256 = c
            omega
          have HW : Hid (Kp w (wr.iterAt w.heap.size X (pos + 1))) := Lib.below_iterAt HJ.out.1 (Nat.le_refl _) X (pos + 1)
          have HC : Hid (Calls Tryz.prog 84 #[.int .u8 (c : Int)] (wr.iterAt w.heap.size X (pos + 1)) fun e w' => e = .returned (.bool false) ∧ Hid (Fr (On b) w w' ∧ Pc T s k m b w')) := by
            refine (HP.out c _ h128 HW.out).mono ?_
            rintro e w' ⟨rfl, k⟩
            exact ⟨by rw [hfl], H0.out w' (kp_trans HW.out k)⟩
          have HE : Hid (X.extract 0 pos = R ∧ N = k + pos) := ⟨HT.out.1, HT.out.2.2⟩
          clear HJ hc hfl HW hit hlt hend HIn HOut
          go_wp2_with fail
          refine Calls.mono HC.out ?_
          rintro e w3 ⟨rfl, HD⟩
          clear HC
          have c0 := HD.out.2.c0
          have c1 := HD.out.2.c1
          have f1 := HD.out.2.f1
          have hk6 := HXl.out
          go_wp2_with fail
          go_ret
          exact ⟨by rw [← HE.out.1]; rfl, HD.out.1.trans (fr_set _ _ _ _), by rw [HE.out.2]; exact HD.out.2.to (k + pos)⟩
        · as_aux_lemma =>
          have hh := decode_high X pos hpX (by omega)
          have hcx := fun ty => Lib.run_next_any_at (P := Tryz.prog) wr w.heap.size X pos ty HJ.out.2 hpX
          obtain ⟨D, hD⟩ : ∃ D, Utf8.decode X pos = D := ⟨_, rfl⟩
          obtain ⟨d1, d2⟩ := D
          rw [hD] at hcx hh
          have hd := hh.1
          simp only at hcx hd
          have g1 : decide ((d1 : Int) ≥ 128) = true := decide_eq_true (by omega)
          have g2 : decide ((128 : Int) ≤ (d1 : Int)) = true := decide_eq_true (by omega)
          have g3 : decide (128 ≤ d1) = true := decide_eq_true (by omega)
          obtain ⟨hf, hp⟩ := H0.out _ (Lib.below_iterAt HJ.out.1 (Nat.le_refl _) X (pos + d2))
          have HX : Hid (Fr (On b) w (wr.iterAt w.heap.size X (pos + d2)) ∧ Pc T s k m b (wr.iterAt w.heap.size X (pos + d2))) := ⟨hf, hp⟩
          have c0 := hp.c0
          have c1 := hp.c1
          have f1 := hp.f1
          have HE : Hid (X.extract 0 pos = R ∧ N = k + pos) := ⟨HT.out.1, HT.out.2.2⟩
          have hk6 := HXl.out
          clear hf hp HJ hit hlt hend HIn HOut hD hh h128
          go_wp2_with fail
          go_ret
          exact ⟨by rw [← HE.out.1]; rfl, HX.out.1.trans (fr_set _ _ _ _), by rw [HE.out.2]; exact HX.out.2.to (k + pos)⟩
theorem blanks_any (h : Pc T s k m b w) (hs : s.size ≤ 1000000) (hl : Lf s k l) :
    Calls Tryz.prog 35 #[.pointer (some ⟨b, 0, none⟩)] w fun e w' => e = .returned (.tuple #[]) ∧ Fr (On b) w w' ∧ Pc T s (s.size - (blkL l).length) m b w' := by
  have HR : Hid _ := run_blk h hs hl
  have HE : Hid (blkL l = l.dropWhile bkB) := rfl
  clear h hl
  go_enter Tryz.func35, Tryz.ntmps35
  go_wp2_with fail
  refine Calls.mono HR.out ?_
  rintro e w2 ⟨rfl, q1, q2⟩
  have HX : Hid (Fr (On b) w w2 ∧ Pc T s (s.size - (blkL l).length) m b w2) := ⟨q1, q2⟩
  clear HR q1 q2
  go_wp2_with fail
  go_end0
  exact ⟨rfl, HX.out⟩
theorem cshf_any {p : Nat} {nm : ByteArray} {g : UInt8} (h1 : w.cell? ⟨p, 0, none⟩ = some (.pointer (some ⟨b, 0, none⟩))) (h2 : w.cell? ⟨b, 3, none⟩ = some (.string nm)) (hs : 0 < nm.size) (hg : byteAt nm 0 = g.toNat) (c : Nat) :
    Calls Tryz.prog 82 #[.int .u8 (c : Int), .pointer (some ⟨p, 0, none⟩)] w fun e w' => e = .returned (.bool (c == g.toNat)) ∧ Kp w w' := by
  have hb := byteAt_eq nm 0 hs
  rw [hg] at hb
  have HE : Hid (((c : Int) == ((nm[0]'hs).toNat : Int)) = (c == g.toNat)) := by
    show _ = _
    rw [← hb, Bool.eq_iff_iff]; simp; omega
  clear hb hg
  go_enter Tryz.func82, Tryz.ntmps82
  go_wp2_with fail
  go_ret
  exact ⟨by rw [← HE.out]; rfl, Below.refl _ _⟩
set_option maxHeartbeats 16000000 in
theorem run_shf {p : Nat} {nm : ByteArray} {g : UInt8} (hbx : w.cell? ⟨p, 0, none⟩ = some (.pointer (some ⟨b, 0, none⟩))) (hnm : w.cell? ⟨b, 3, none⟩ = some (.string nm)) (hnz : 0 < nm.size) (hg0 : byteAt nm 0 = g.toNat) (hg8 : g.toNat < 128) (h : Pc T s k m b w) (hs : s.size ≤ 1000000) (hl : Lf s k l) :
    Calls Tryz.prog 66 #[.pointer (some ⟨b, 0, none⟩), .func (.func 82) #[] #[.pointer (some ⟨p, 0, none⟩)]] w fun e w' => e = .returned (.string ⟨(l.takeWhile (fun a : UInt8 => a == g)).toArray⟩) ∧ Fr (On b) w w' ∧ Pc T s (s.size - (l.dropWhile (fun a : UInt8 => a == g)).length) m b w' := by
  have HP : Hid (∀ (c : Nat) z, c < 128 → Kp w z → Calls Tryz.prog 82 #[.int .u8 (c : Int), .pointer (some ⟨p, 0, none⟩)] z fun e w' => e = .returned (.bool ((fun c : Nat => c == g.toNat) c)) ∧ Kp z w') := fun c z h1 h2 => cshf_any (kp_cell h2 hbx) (kp_cell h2 hnm) hnz hg0 c
  have HR : Hid _ := rest_any h hs hl
  obtain ⟨X, hX⟩ : ∃ X : ByteArray, (⟨l.toArray⟩ : ByteArray) = X := ⟨_, rfl⟩
  have hXs : X.size = l.length := by rw [← hX]; show l.toArray.size = _; simp
  rw [hX] at HR
  obtain ⟨n, hn⟩ : ∃ n, (l.takeWhile (fun a : UInt8 => a == g)).length = n := ⟨_, rfl⟩
  have hnl : n ≤ l.length := by rw [← hn]; exact tw_le l
  have hlk := hl.len
  have hk := hl.1
  have HIn : Hid (∀ i (hi : i < X.size), i < n → (X[i]'hi).toNat < 128 ∧ (fun c : Nat => c == g.toNat) (X[i]'hi).toNat = true) := fun i hi h2 => by
    obtain ⟨c, q1, q2⟩ := tw_in (p := (fun a : UInt8 => a == g)) l i (by rw [hn]; exact h2)
    have e : X[i]'hi = c := by
      subst hX
      have : l[i]? = some ((⟨l.toArray⟩ : ByteArray)[i]'hi) := by
        rw [List.getElem?_eq_getElem (by rw [← hXs]; exact hi)]; rfl
      rw [q1] at this; cases this; rfl
    rw [e]
    exact ⟨by rw [eq_of_beq q2]; exact hg8, by rw [eq_of_beq q2]; exact beq_self_eq_true _⟩
  have HOut : Hid (∀ (hi : n < X.size), (X[n]'hi).toNat < 128 → (fun c : Nat => c == g.toNat) (X[n]'hi).toNat = false) := fun hi h2 => by
    have q1 : l[(l.takeWhile (fun a : UInt8 => a == g)).length]? = some (X[n]'hi) := by
      subst hX
      rw [hn, List.getElem?_eq_getElem (by rw [← hXs]; exact hi)]; rfl
    have q2 := tw_out (p := (fun a : UInt8 => a == g)) l _ q1
    exact by
      have q3 : (X[n]'hi) ≠ g := by simpa using q2
      show ((X[n]'hi).toNat == g.toNat) = false
      rw [beq_eq_false_iff_ne]; exact fun q => q3 (UInt8.toNat_inj.1 q)
  have HT : Hid (X.extract 0 n = ⟨(l.takeWhile (fun a : UInt8 => a == g)).toArray⟩ ∧ (n = l.length → X = ⟨(l.takeWhile (fun a : UInt8 => a == g)).toArray⟩) ∧ s.size - (l.dropWhile (fun a : UInt8 => a == g)).length = k + n) := by
    have hap := List.takeWhile_append_dropWhile (p := (fun a : UInt8 => a == g)) (l := l)
    have hlen : (l.takeWhile (fun a : UInt8 => a == g)).length + (l.dropWhile (fun a : UInt8 => a == g)).length = l.length := by rw [← List.length_append, hap]
    have htk : l.take n = l.takeWhile (fun a : UInt8 => a == g) := by
      rw [← hn]
      have q : ∀ a d : List UInt8, a ++ d = l → l.take a.length = a := fun a d e => by rw [← e]; exact List.take_left
      exact q _ _ hap
    refine ⟨?_, fun e => ?_, by omega⟩
    · apply ByteArray.ext
      rw [ByteArray.data_extract]
      apply Array.ext'
      rw [Array.toList_extract, List.extract_eq_take_drop, ← hX]
      simpa using htk
    · rw [← hX, ← htk, e, List.take_length]
  have H0 : Hid (∀ z, Kp w z → Fr (On b) w z ∧ Pc T s k m b z) := fun z q => ⟨Fr.of_below q, h.kp q⟩
  obtain ⟨N, hN⟩ : ∃ N, s.size - (l.dropWhile (fun a : UInt8 => a == g)).length = N := ⟨_, rfl⟩
  obtain ⟨R, hR⟩ : ∃ R : ByteArray, (⟨(l.takeWhile (fun a : UInt8 => a == g)).toArray⟩ : ByteArray) = R := ⟨_, rfl⟩
  rw [hN, hR] at HT
  rw [hN, hR]
  have hn6 : n ≤ 1000000 := by omega
  have hnX : n ≤ X.size := by omega
  have HXl : Hid (X.size = l.length ∧ k + l.length = s.size) := ⟨hXs, by omega⟩
  clear h hl hX hXs hn hnl hlk hN hR hk
  go_enter Tryz.func66, Tryz.ntmps66
  go_wp2_with fail
  refine Calls.mono HR.out ?_
  rintro e w2 ⟨rfl, q, rfl⟩
  clear HR
  go_wp2_with fail
  have hds : (w.drewN q).heap.size = w.heap.size := by rw [drewN_heap]
  have HI : Hid (Kp w ((w.drewN q).iter X 0) ∧ ((w.drewN q).iter X 0).heap[w.heap.size]? = some (.stringIter X 0)) := by
    have e := World.iter_heap (w.drewN q) X 0
    rw [hds] at e
    exact ⟨kp_trans (kp_drewN w q) (kp_alloc _ _), e⟩
  clear hds
  go_loopw [] (fun wr => ∃ pos, pos ≤ n ∧ Hid (Kp w wr ∧ wr.heap[w.heap.size]? = some (.stringIter X pos))) (fun wr => n + 1 - itp w.heap.size wr)
  case atStart => exact ⟨0, Nat.zero_le _, HI.out.1, HI.out.2⟩
  case round =>
    clear HI
    obtain ⟨pos, hpn, HJ⟩ := hrel
    have hit := itp_of HJ.out.2
    by_cases hlt : pos < n
    · as_aux_lemma =>
      have hpX : pos < X.size := by omega
      obtain ⟨c, hc⟩ : ∃ c, (X[pos]'hpX).toNat = c := ⟨_, rfl⟩
      have hin := HIn.out pos hpX hlt
      rw [hc] at hin
      have hc128 := hin.1
      have hcx := fun ty => Lib.run_next_ascii_at (P := Tryz.prog) wr w.heap.size X pos ty HJ.out.2 hpX (by rw [hc]; exact hc128)
      rw [hc] at hcx
      have g1 : decide ((c : Int) ≥ 128) = false := decide_eq_false (by omega)
      have g2 : decide ((128 : Int) ≤ (c : Int)) = false := decide_eq_false (by omega)
      have g3 : decide (128 ≤ c) = false := decide_eq_false (by omega)
      have gw : IntKind.u8.wrap (c : Int) = (c : Int) := by
        show (c : Int) % 256 = c
        omega
      have HW : Hid (Kp w (wr.iterAt w.heap.size X (pos + 1)) ∧ (wr.iterAt w.heap.size X (pos + 1)).heap[w.heap.size]? = some (.stringIter X (pos + 1))) := ⟨Lib.below_iterAt HJ.out.1 (Nat.le_refl _) X (pos + 1), Lib.iterAt_heap wr w.heap.size X pos (pos + 1) HJ.out.2⟩
      have HC : Hid (Calls Tryz.prog 82 #[.int .u8 (c : Int), .pointer (some ⟨p, 0, none⟩)] (wr.iterAt w.heap.size X (pos + 1)) fun e w' => e = .returned (.bool true) ∧ Hid (Kp w w' ∧ w'.heap[w.heap.size]? = some (.stringIter X (pos + 1)))) := by
        refine (HP.out c _ hc128 HW.out.1).mono ?_
        rintro e w' ⟨rfl, k⟩
        exact ⟨by rw [hin.2], kp_trans HW.out.1 k, by rw [k.block w.heap.size (Array.getElem?_eq_some_iff.1 HW.out.2).1]; exact HW.out.2⟩
      clear HJ hc hin HW
      go_wp2_with fail
      refine Calls.mono HC.out ?_
      rintro e w3 ⟨rfl, HD⟩
      clear HC
      go_wp2_with fail
      have hit2 := itp_of HD.out.2
      exact ⟨⟨pos + 1, by omega, HD.out⟩, by rw [hit2, hit]; omega⟩
    · obtain rfl : pos = n := by omega
      by_cases hend : pos = X.size
      · as_aux_lemma =>
        have hcx := fun ty => Lib.run_next_end_at (P := Tryz.prog) wr w.heap.size X pos ty HJ.out.2 (by omega)
        obtain ⟨hf, hp⟩ := H0.out wr HJ.out.1
        have HX : Hid (Fr (On b) w wr ∧ Pc T s k m b wr) := ⟨hf, hp⟩
        have c0 := hp.c0
        have c1 := hp.c1
        have f1 := hp.f1
        have HE : Hid (X = R ∧ N = s.size) := ⟨HT.out.2.1 (by have := HXl.out.1; omega), by have := HT.out.2.2; have := HXl.out; omega⟩
        clear hf hp HJ hit hlt HIn HOut
        go_wp2_with fail
        go_ret
        exact ⟨by rw [← HE.out.1]; rfl, HX.out.1.trans (fr_set _ _ _ _), by rw [HE.out.2]; exact HX.out.2.to s.size⟩
      · have hpX : pos < X.size := by omega
        have g5 : decide (pos ≤ X.size) = true := decide_eq_true (by omega)
        by_cases h128 : (X[pos]'hpX).toNat < 128
        · as_aux_lemma =>
          have hfl := HOut.out hpX h128
          obtain ⟨c, hc⟩ : ∃ c, (X[pos]'hpX).toNat = c := ⟨_, rfl⟩
          have hcx := fun ty => Lib.run_next_ascii_at (P := Tryz.prog) wr w.heap.size X pos ty HJ.out.2 hpX h128
          rw [hc] at hcx hfl h128
          have g1 : decide ((c : Int) ≥ 128) = false := decide_eq_false (by omega)
          have g2 : decide ((128 : Int) ≤ (c : Int)) = false := decide_eq_false (by omega)
          have g3 : decide (128 ≤ c) = false := decide_eq_false (by omega)
          have gw : IntKind.u8.wrap (c : Int) = (c : Int) := by
            show (c : Int) % 256 = c
            omega
          have HW : Hid (Kp w (wr.iterAt w.heap.size X (pos + 1))) := Lib.below_iterAt HJ.out.1 (Nat.le_refl _) X (pos + 1)
          have HC : Hid (Calls Tryz.prog 82 #[.int .u8 (c : Int), .pointer (some ⟨p, 0, none⟩)] (wr.iterAt w.heap.size X (pos + 1)) fun e w' => e = .returned (.bool false) ∧ Hid (Fr (On b) w w' ∧ Pc T s k m b w')) := by
            refine (HP.out c _ h128 HW.out).mono ?_
            rintro e w' ⟨rfl, k⟩
            exact ⟨by rw [hfl], H0.out w' (kp_trans HW.out k)⟩
          have HE : Hid (X.extract 0 pos = R ∧ N = k + pos) := ⟨HT.out.1, HT.out.2.2⟩
          clear HJ hc hfl HW hit hlt hend HIn HOut
          go_wp2_with fail
          refine Calls.mono HC.out ?_
          rintro e w3 ⟨rfl, HD⟩
          clear HC
          have c0 := HD.out.2.c0
          have c1 := HD.out.2.c1
          have f1 := HD.out.2.f1
          have hk6 := HXl.out
          go_wp2_with fail
          go_ret
          exact ⟨by rw [← HE.out.1]; rfl, HD.out.1.trans (fr_set _ _ _ _), by rw [HE.out.2]; exact HD.out.2.to (k + pos)⟩
        · as_aux_lemma =>
          have hh := decode_high X pos hpX (by omega)
          have hcx := fun ty => Lib.run_next_any_at (P := Tryz.prog) wr w.heap.size X pos ty HJ.out.2 hpX
          obtain ⟨D, hD⟩ : ∃ D, Utf8.decode X pos = D := ⟨_, rfl⟩
          obtain ⟨d1, d2⟩ := D
          rw [hD] at hcx hh
          have hd := hh.1
          simp only at hcx hd
          have g1 : decide ((d1 : Int) ≥ 128) = true := decide_eq_true (by omega)
          have g2 : decide ((128 : Int) ≤ (d1 : Int)) = true := decide_eq_true (by omega)
          have g3 : decide (128 ≤ d1) = true := decide_eq_true (by omega)
          obtain ⟨hf, hp⟩ := H0.out _ (Lib.below_iterAt HJ.out.1 (Nat.le_refl _) X (pos + d2))
          have HX : Hid (Fr (On b) w (wr.iterAt w.heap.size X (pos + d2)) ∧ Pc T s k m b (wr.iterAt w.heap.size X (pos + d2))) := ⟨hf, hp⟩
          have c0 := hp.c0
          have c1 := hp.c1
          have f1 := hp.f1
          have HE : Hid (X.extract 0 pos = R ∧ N = k + pos) := ⟨HT.out.1, HT.out.2.2⟩
          have hk6 := HXl.out
          clear hf hp HJ hit hlt hend HIn HOut hD hh h128
          go_wp2_with fail
          go_ret
          exact ⟨by rw [← HE.out.1]; rfl, HX.out.1.trans (fr_set _ _ _ _), by rw [HE.out.2]; exact HX.out.2.to (k + pos)⟩
end
end Go.Proofs.YtfgapmfjfienhaaGreatDoor
/- What follows a name: the reader in memory, and its parts. -/
namespace Go.Proofs.YtfgapmfjfienhaaGreatDoor
open Go.ChangeShapes Go.WideShapes Go.ChangeAt Go.RowKit Go.Maps Go.MapKept
set_option linter.unusedVariables false
set_option linter.unusedSimpArgs false
set_option maxRecDepth 100000
def bA (l : List UInt8) : ByteArray := ⟨l.toArray⟩
/-- The command's cells. -/
def cmC (c : CmP) (rv dv : Value) : List Value := [rv, .string (bA c.name), .bool c.bang, .int .u8 (c.reg : Int), .int .i64 c.cnt, dv, .string (bA c.pat), .string (bA c.rep), .string (bA c.flags), .string (bA c.arg)]
/-- The reader at block b; what is laid lies from block B on. -/
structure Rd (s : ByteArray) (b B : Nat) (k : Nat) (c : CmP) (rv dv : Value) (w : World) : Prop where
  pc : Pc 49 s k (cmC c rv dv) b w
  rr : w.ownsRow B 43 6 rv c.rg.length (adCs c.rg)
  rd : w.ownsRow B 43 6 dv c.dest.length (adCs c.dest)
  hB : B ≤ b
section
variable {s : ByteArray} {b B k j : Nat} {c c' : CmP} {rv dv v : Value} {w w1 w2 : World} {l : List UInt8}
theorem Rd.row_off {n : Nat} {xs : List Value} (h : Pc 49 s k (cmC c rv dv) b w) (r : w.ownsRow B 43 6 v n xs) : ∀ i, v.ownBlock = some i → i ≠ b := fun i e q => by
  subst q
  have hm : Lc 49 i (.string s :: .int .i64 (k : Int) :: cmC c rv dv) w := h
  exact row_ne r hm (by decide) e
theorem Rd.lt (h : Rd s b B k c rv dv w) : b < w.heap.size := h.pc.lt
theorem Rd.call (h : Rd s b B k c rv dv w) (f : Fr (On b) w w1) (p : Pc 49 s j (cmC c rv dv) b w1) : Rd s b B j c rv dv w1 :=
  ⟨p, row_fr h.rr f fun i e hi => Rd.row_off h.pc h.rr i e hi, row_fr h.rd f fun i e hi => Rd.row_off h.pc h.rd i e hi, h.hB⟩
theorem Rd.kp (h : Rd s b B k c rv dv w) (f : Kp w w1) : Rd s b B k c rv dv w1 := h.call (Fr.of_below f) (h.pc.kp f)
theorem Rd.set (h : Rd s b B k c rv dv w) (i : Nat) (x : Value) (e : (cmC c rv dv).set i x = cmC c' rv dv) (e1 : c'.rg = c.rg) (e2 : c'.dest = c.dest) : Rd s b B k c' rv dv (w.setCell ⟨b, i + 2, none⟩ x) := by
  have p : Pc 49 s k (cmC c' rv dv) b (w.setCell ⟨b, i + 2, none⟩ x) := by
    have := Lc.set h.pc (i + 2) x
    simp only [List.set_cons_succ, e] at this
    exact this
  refine ⟨p, ?_, ?_, h.hB⟩
  · rw [e1]; exact row_fr h.rr (fr_set _ _ _ _) fun i e hi => Rd.row_off h.pc h.rr i e hi
  · rw [e2]; exact row_fr h.rd (fr_set _ _ _ _) fun i e hi => Rd.row_off h.pc h.rd i e hi
theorem Rd.cell (h : Rd s b B k c rv dv w) {i : Nat} {x : Value} (e : (cmC c rv dv)[i]? = some x) : w.cell? ⟨b, i + 2, none⟩ = some x := Lc.at h.pc (j := i + 2) (by simpa using e)
theorem Rd.fz (h : Rd s b B k c rv dv w) (i : Nat) : w.frozen? ⟨b, i, none⟩ = false := Lc.fz h.pc i
/-- What a part of the reader leaves: an error, or the command. -/
def Aft (s : ByteArray) (b B : Nat) (rv : Value) (o : Out) (w : World) (e : Ending) (w' : World) : Prop :=
  e = .returned (.int .u16 (o.1 : Int)) ∧ Fr (On b) w w' ∧ (o.1 = 0 → o.2.2.length ≤ s.size ∧ Lf s (s.size - o.2.2.length) o.2.2 ∧ ∃ dv', Rd s b B (s.size - o.2.2.length) o.2.1 rv dv' w')
theorem Aft.tr {o : Out} {e : Ending} (f : Fr (On b) w w1) (h : Aft s b B rv o w1 e w2) : Aft s b B rv o w e w2 := ⟨h.1, f.trans h.2.1, h.2.2⟩
theorem blkL_suf (l : List UInt8) : blkL l <:+ l := dropW_suf l
theorem str_ne {l : List UInt8} (h : l ≠ []) : (bA l).toList.isEmpty = false := toList_ne (by show l.toArray.size ≠ 0; simpa using h)
theorem Lf.dropW (h : Lf s k l) (p : UInt8 → Bool) : Lf s (s.size - (l.dropWhile p).length) (l.dropWhile p) := h.suf (dropW_suf l)
set_option maxHeartbeats 16000000 in
theorem number_o (h : Rd s b B k c rv dv w) (hs : s.size ≤ 1000000) (hl : Lf s k l) :
    Calls Tryz.prog 51 #[.pointer (some ⟨b, 0, none⟩)] w fun e w' => Aft s b B rv (numberC c l) w e w' := by
  have HB1 : Hid (Calls Tryz.prog 35 #[.pointer (some ⟨b, 0, none⟩)] w fun e w' => e = .returned (.tuple #[]) ∧ Hid (Fr (On b) w w' ∧ Rd s b B (s.size - (blkL l).length) c rv dv w')) := (blanks_any h.pc hs hl).mono (by
    rintro e w' ⟨rfl, q1, q2⟩; exact ⟨rfl, q1, h.call q1 q2⟩)
  obtain ⟨l1, hl1⟩ : ∃ l1, blkL l = l1 := ⟨_, rfl⟩
  have hL1 : Lf s (s.size - l1.length) l1 := by rw [← hl1]; exact hl.suf (blkL_suf l)
  have HR : Hid (∀ z, Rd s b B (s.size - l1.length) c rv dv z → Calls Tryz.prog 66 #[.pointer (some ⟨b, 0, none⟩), .func (.func 75) #[] #[]] z fun e w' => e = .returned (.string ⟨(l1.takeWhile dgB).toArray⟩) ∧ Hid (Fr (On b) z w' ∧ Rd s b B (s.size - (l1.dropWhile dgB).length) c rv dv w')) := fun z hz => (run_dig hz.pc hs hL1).mono (by
    rintro e w' ⟨rfl, q1, q2⟩; exact ⟨rfl, q1, hz.call q1 q2⟩)
  have hout : numberC c l = (if (l1.takeWhile dgB).length = 0 then (0, c, l1) else if 9 < (l1.takeWhile dgB).length then (151, c, l1.dropWhile dgB) else (0, { c with cnt := (Lib.atoi (l1.takeWhile dgB)).getD 0 }, l1.dropWhile dgB)) := by unfold numberC; rw [hl1]
  rw [hl1] at HB1
  have hap := List.takeWhile_append_dropWhile (p := dgB) (l := l1)
  have hL2 : Lf s (s.size - (l1.dropWhile dgB).length) (l1.dropWhile dgB) := hL1.dropW dgB
  have hdg : ∀ x ∈ l1.takeWhile dgB, 48 ≤ x.toNat ∧ x.toNat ≤ 57 := fun x hx => digF_in (tw_all (p := dgB) l1 hx)
  obtain ⟨d, hd⟩ : ∃ d, l1.takeWhile dgB = d := ⟨_, rfl⟩
  obtain ⟨r, hr⟩ : ∃ r, l1.dropWhile dgB = r := ⟨_, rfl⟩
  rw [hd, hr] at hout hap HR
  rw [hd] at hdg
  rw [hr] at hL2
  rw [hout]
  have hdsz : (⟨d.toArray⟩ : ByteArray).size = d.length := by show d.toArray.size = _; simp
  have HL1 : Hid (Lf s (s.size - l1.length) l1 ∧ l1.length ≤ s.size) := ⟨hL1, by have := hL1.len; omega⟩
  have HL2 : Hid (Lf s (s.size - r.length) r ∧ r.length ≤ s.size) := ⟨hL2, by have := hL2.len; omega⟩
  by_cases c0 : d.length = 0
  · have hd0 : d = [] := List.eq_nil_of_length_eq_zero c0
    subst hd0
    have hr1 : r = l1 := by simpa using hap
    subst hr1
    simp only [List.length_nil, if_true]
    clear hdsz hdg hap hL1 hL2 hl hout hl1 hd hr h
    go_enter Tryz.func51, Tryz.ntmps51
    go_wp2_with fail
    refine Calls.mono HB1.out ?_
    rintro e w2 ⟨rfl, HX⟩
    clear HB1
    go_wp2_with fail
    refine Calls.mono (HR.out _ HX.out.2) ?_
    rintro e w3 ⟨rfl, HY⟩
    clear HR
    have HZ : Hid (Fr (On b) w w3 ∧ Rd s b B (s.size - r.length) c rv dv w3) := ⟨HX.out.1.trans HY.out.1, HY.out.2⟩
    clear HX HY
    go_wp2_with fail
    go_ret
    exact ⟨rfl, HZ.out.1, fun _ => ⟨HL2.out.2, HL2.out.1, _, HZ.out.2⟩⟩
  · simp only [if_neg c0]
    have g1 : (⟨d.toArray⟩ : ByteArray).toList.isEmpty = false := toList_ne (by rw [hdsz]; exact c0)
    by_cases c9 : 9 < d.length
    · simp only [if_pos c9]
      have g2 : decide (((⟨d.toArray⟩ : ByteArray).size : Int) > 9) = true := decide_eq_true (by rw [hdsz]; omega)
      have g3 : decide ((9 : Int) < ((⟨d.toArray⟩ : ByteArray).size : Int)) = true := decide_eq_true (by rw [hdsz]; omega)
      have g4 : decide (9 < (⟨d.toArray⟩ : ByteArray).size) = true := decide_eq_true (by rw [hdsz]; omega)
      obtain ⟨D, hD⟩ : ∃ D : ByteArray, (⟨d.toArray⟩ : ByteArray) = D := ⟨_, rfl⟩
      rw [hD] at HR g1 g2 g3 g4
      clear hD hdsz hdg hap hL1 hL2 hl hout hl1 hd hr h c0 c9
      go_enter Tryz.func51, Tryz.ntmps51
      go_wp2_with fail
      refine Calls.mono HB1.out ?_
      rintro e w2 ⟨rfl, HX⟩
      clear HB1
      go_wp2_with fail
      refine Calls.mono (HR.out _ HX.out.2) ?_
      rintro e w3 ⟨rfl, HY⟩
      clear HR
      have HZ : Hid (Fr (On b) w w3) := HX.out.1.trans HY.out.1
      clear HX HY
      go_wp2_with fail
      go_ret
      exact ⟨rfl, HZ.out, fun q => by cases q⟩
    · simp only [if_neg c9]
      obtain ⟨n, hn, hlt⟩ := atoi_some (l := d) (by intro e; rw [e] at c0; exact c0 rfl) hdg
      rw [hn]
      have HA : Hid (∀ z, Calls Tryz.prog 76 #[.string ⟨d.toArray⟩] z fun e w' => e = .returned (.tuple #[.int .i64 (n : Int), .nilIface]) ∧ Kp z w') := fun z => atoi_any _ n (by rw [hdsz]; omega) (by rw [← hn]) z
      have g2 : decide (((⟨d.toArray⟩ : ByteArray).size : Int) > 9) = false := decide_eq_false (by rw [hdsz]; omega)
      have g3 : decide ((9 : Int) < ((⟨d.toArray⟩ : ByteArray).size : Int)) = false := decide_eq_false (by rw [hdsz]; omega)
      have g4 : decide (9 < (⟨d.toArray⟩ : ByteArray).size) = false := decide_eq_false (by rw [hdsz]; omega)
      obtain ⟨D, hD⟩ : ∃ D : ByteArray, (⟨d.toArray⟩ : ByteArray) = D := ⟨_, rfl⟩
      rw [hD] at HR HA g1 g2 g3 g4
      clear hD hdsz hdg hap hL1 hL2 hl hout hl1 hd hr h c0 c9 hn
      go_enter Tryz.func51, Tryz.ntmps51
      go_wp2_with fail
      refine Calls.mono HB1.out ?_
      rintro e w2 ⟨rfl, HX⟩
      clear HB1
      go_wp2_with fail
      refine Calls.mono (HR.out _ HX.out.2) ?_
      rintro e w3 ⟨rfl, HY⟩
      clear HR
      go_wp2_with fail
      refine Calls.mono (HA.out _) ?_
      rintro e w4 ⟨rfl, k4⟩
      clear HA
      have HZ : Hid (Fr (On b) w w4 ∧ Rd s b B (s.size - r.length) c rv dv w4) := ⟨(HX.out.1.trans HY.out.1).trans (Fr.of_below k4), HY.out.2.kp k4⟩
      clear HX HY k4
      have c6 : w4.cell? ⟨b, 6, none⟩ = some (.int .i64 c.cnt) := HZ.out.2.cell (i := 4) rfl
      have f6 : w4.frozen? ⟨b, 6, none⟩ = false := HZ.out.2.fz 6
      go_wp2_with fail
      go_ret
      exact ⟨rfl, HZ.out.1.trans (fr_set _ _ _ _), fun _ => ⟨HL2.out.2, HL2.out.1, _, HZ.out.2.set 4 (.int .i64 (n : Int)) rfl rfl rfl⟩⟩
end
end Go.Proofs.YtfgapmfjfienhaaGreatDoor
/- What follows a name: the other parts. -/
namespace Go.Proofs.YtfgapmfjfienhaaGreatDoor
open Go.ChangeShapes Go.WideShapes Go.ChangeAt Go.RowKit Go.Maps Go.MapKept
set_option linter.unusedVariables false
set_option linter.unusedSimpArgs false
set_option maxRecDepth 100000
section
variable {s : ByteArray} {b B k j : Nat} {c c' : CmP} {rv dv v : Value} {w w1 w2 : World} {l : List UInt8}
theorem onv (q : Option UInt8) : (((q.map UInt8.toNat).getD 0 : Nat) : Int) = (((q.map UInt8.toNat).getD 0 : Nat) : Int) := rfl
theorem Lf.nil_ (s : ByteArray) : Lf s (s.size - ([] : List UInt8).length) [] := ⟨Nat.sub_le _ _, List.drop_eq_nil_of_le (by rw [← Lib.size_eq]; exact Nat.le_refl _)⟩
theorem Aft.mk' {o : Out} {x : Int} (he : x = (o.1 : Int)) (f : Fr (On b) w w1) (h : o.1 = 0 → o.2.2.length ≤ s.size ∧ Lf s (s.size - o.2.2.length) o.2.2 ∧ ∃ dv', Rd s b B (s.size - o.2.2.length) o.2.1 rv dv' w1) : Aft s b B rv o w (.returned (.int .u16 x)) w1 := ⟨by rw [he], f, h⟩
set_option maxHeartbeats 16000000 in
theorem register_o (h : Rd s b B k c rv dv w) (hs : s.size ≤ 1000000) (hl : Lf s k l) :
    Calls Tryz.prog 52 #[.pointer (some ⟨b, 0, none⟩)] w fun e w' => Aft s b B rv (registerC c l) w e w' := by
  have HB1 : Hid (Calls Tryz.prog 35 #[.pointer (some ⟨b, 0, none⟩)] w fun e w' => e = .returned (.tuple #[]) ∧ Hid (Fr (On b) w w' ∧ Rd s b B (s.size - (blkL l).length) c rv dv w')) := (blanks_any h.pc hs hl).mono (by
    rintro e w' ⟨rfl, q1, q2⟩; exact ⟨rfl, q1, h.call q1 q2⟩)
  obtain ⟨l1, hl1⟩ : ∃ l1, blkL l = l1 := ⟨_, rfl⟩
  have hL1 : Lf s (s.size - l1.length) l1 := by rw [← hl1]; exact hl.suf (blkL_suf l)
  rw [hl1] at HB1
  have HO : Hid (∀ z, Rd s b B (s.size - l1.length) c rv dv z → Calls Tryz.prog 33 #[.pointer (some ⟨b, 0, none⟩), .func (.func 77) #[] #[]] z fun e w' => e = .returned (.tuple #[.int .u8 ((((oneL rgsF l1).1.map UInt8.toNat).getD 0 : Nat) : Int), .bool (oneL rgsF l1).1.isSome]) ∧ Hid (Fr (On b) z w' ∧ Rd s b B (s.size - (oneL rgsF l1).2.length) c rv dv w')) := fun z hz => (one_rgs hz.pc hs hL1).mono (by
    rintro e w' ⟨rfl, q1, q2⟩; exact ⟨rfl, q1, hz.call q1 q2⟩)
  have hL2 : Lf s (s.size - (oneL rgsF l1).2.length) (oneL rgsF l1).2 := hL1.suf (oneL_suf _ _)
  have hout : registerC c l = (0, { c with reg := (((oneL rgsF l1).1.map UInt8.toNat).getD 0) }, (oneL rgsF l1).2) := by unfold registerC; rw [hl1]
  obtain ⟨q, r, hq⟩ : ∃ q r, oneL rgsF l1 = (q, r) := ⟨_, _, rfl⟩
  simp only [hq] at HO hL2 hout
  obtain ⟨G, hG⟩ : ∃ G : Nat, (q.map UInt8.toNat).getD 0 = G := ⟨_, rfl⟩
  have HL2 : Hid (Lf s (s.size - r.length) r ∧ r.length ≤ s.size) := ⟨hL2, by have := hL2.len; omega⟩
  simp only [hG] at HO hout
  rw [hout]
  clear hout hl1 hL1 hL2 hq hG h hl
  go_enter Tryz.func52, Tryz.ntmps52
  go_wp2_with fail
  refine Calls.mono HB1.out ?_
  rintro e w2 ⟨rfl, HX⟩
  clear HB1
  go_wp2_with fail
  refine Calls.mono (HO.out _ HX.out.2) ?_
  rintro e w3 ⟨rfl, HY⟩
  clear HO
  have HZ : Hid (Fr (On b) w w3 ∧ Rd s b B (s.size - r.length) c rv dv w3) := ⟨HX.out.1.trans HY.out.1, HY.out.2⟩
  clear HX HY
  have c5 : w3.cell? ⟨b, 5, none⟩ = some (.int .u8 (c.reg : Int)) := HZ.out.2.cell (i := 3) rfl
  have f5 : w3.frozen? ⟨b, 5, none⟩ = false := HZ.out.2.fz 5
  go_wp2_with fail
  go_ret
  exact .mk' rfl (HZ.out.1.trans (fr_set _ _ _ _)) fun _ => ⟨HL2.out.2, HL2.out.1, _, HZ.out.2.set 3 (.int .u8 (G : Int)) rfl rfl rfl⟩
set_option maxHeartbeats 16000000 in
theorem regnum_o (h : Rd s b B k c rv dv w) (hs : s.size ≤ 1000000) (hl : Lf s k l) :
    Calls Tryz.prog 49 #[.pointer (some ⟨b, 0, none⟩)] w fun e w' => Aft s b B rv (regnumC c l) w e w' := by
  have HR : Hid (Calls Tryz.prog 52 #[.pointer (some ⟨b, 0, none⟩)] w fun e w' => Aft s b B rv (registerC c l) w e w') := register_o h hs hl
  have hout : regnumC c l = numberC (registerC c l).2.1 (registerC c l).2.2 := rfl
  have h0 : (registerC c l).1 = 0 := rfl
  obtain ⟨x, c1, l1, hq⟩ : ∃ x c1 l1, registerC c l = (x, c1, l1) := ⟨_, _, _, rfl⟩
  rw [hq] at HR hout h0
  simp only at hout h0
  subst h0
  rw [hout]
  have HN : Hid (∀ z k dv, Rd s b B k c1 rv dv z → Lf s k l1 → Calls Tryz.prog 51 #[.pointer (some ⟨b, 0, none⟩)] z fun e w' => Aft s b B rv (numberC c1 l1) z e w') := fun z k dv hz hl => number_o hz hs hl
  clear hout hq h hl
  go_enter Tryz.func49, Tryz.ntmps49
  go_wp2_with fail
  refine Calls.mono HR.out ?_
  rintro e w2 ⟨rfl, q1, q2⟩
  obtain ⟨q3, q4, dv2, q5⟩ := q2 rfl
  have HX : Hid (Fr (On b) w w2 ∧ Lf s (s.size - l1.length) l1 ∧ Rd s b B (s.size - l1.length) c1 rv dv2 w2) := ⟨q1, q4, q5⟩
  clear HR q1 q2 q3 q4 q5
  go_wp2_with fail
  refine Calls.mono (HN.out _ _ _ HX.out.2.2 HX.out.2.1) ?_
  intro e w3 q
  have HY : Hid (Aft s b B rv (numberC c1 l1) w e w3) := q.tr HX.out.1
  clear HN HX q
  obtain rfl := HY.out.1
  go_wp2_with fail
  go_ret
  exact ⟨rfl, HY.out.2.1, HY.out.2.2⟩
set_option maxHeartbeats 16000000 in
theorem mark_o (h : Rd s b B k c rv dv w) (hs : s.size ≤ 1000000) (hl : Lf s k l) :
    Calls Tryz.prog 53 #[.pointer (some ⟨b, 0, none⟩)] w fun e w' => Aft s b B rv (markC c l) w e w' := by
  have HB1 : Hid (Calls Tryz.prog 35 #[.pointer (some ⟨b, 0, none⟩)] w fun e w' => e = .returned (.tuple #[]) ∧ Hid (Fr (On b) w w' ∧ Rd s b B (s.size - (blkL l).length) c rv dv w')) := (blanks_any h.pc hs hl).mono (by
    rintro e w' ⟨rfl, q1, q2⟩; exact ⟨rfl, q1, h.call q1 q2⟩)
  obtain ⟨l1, hl1⟩ : ∃ l1, blkL l = l1 := ⟨_, rfl⟩
  have hL1 : Lf s (s.size - l1.length) l1 := by rw [← hl1]; exact hl.suf (blkL_suf l)
  rw [hl1] at HB1
  have HO : Hid (∀ z, Rd s b B (s.size - l1.length) c rv dv z → Calls Tryz.prog 33 #[.pointer (some ⟨b, 0, none⟩), .func (.func 78) #[] #[]] z fun e w' => e = .returned (.tuple #[.int .u8 ((((oneL anyF l1).1.map UInt8.toNat).getD 0 : Nat) : Int), .bool (oneL anyF l1).1.isSome]) ∧ Hid (Fr (On b) z w' ∧ Rd s b B (s.size - (oneL anyF l1).2.length) c rv dv w')) := fun z hz => (one_any hz.pc hs hL1).mono (by
    rintro e w' ⟨rfl, q1, q2⟩; exact ⟨rfl, q1, hz.call q1 q2⟩)
  have hL2 : Lf s (s.size - (oneL anyF l1).2.length) (oneL anyF l1).2 := hL1.suf (oneL_suf _ _)
  have hout : markC c l = ((if (oneL anyF l1).1 = none then 151 else 0), { c with reg := (((oneL anyF l1).1.map UInt8.toNat).getD 0) }, (oneL anyF l1).2) := by unfold markC; rw [hl1]
  obtain ⟨q, r, hq⟩ : ∃ q r, oneL anyF l1 = (q, r) := ⟨_, _, rfl⟩
  simp only [hq] at HO hL2 hout
  obtain ⟨G, hG⟩ : ∃ G : Nat, (q.map UInt8.toNat).getD 0 = G := ⟨_, rfl⟩
  have HL2 : Hid (Lf s (s.size - r.length) r ∧ r.length ≤ s.size) := ⟨hL2, by have := hL2.len; omega⟩
  obtain ⟨M, hM⟩ : ∃ M : Bool, q.isSome = M := ⟨_, rfl⟩
  simp only [hG, hM] at HO hout
  have hif : (if q = none then 151 else 0 : Nat) = (if M then 0 else 151 : Nat) := by rw [← hM]; cases q <;> rfl
  rw [hif] at hout
  rw [hout]
  clear hout hl1 hL1 hL2 hq hG hM hif h hl
  go_enter Tryz.func53, Tryz.ntmps53
  go_wp2_with fail
  refine Calls.mono HB1.out ?_
  rintro e w2 ⟨rfl, HX⟩
  clear HB1
  go_wp2_with fail
  refine Calls.mono (HO.out _ HX.out.2) ?_
  rintro e w3 ⟨rfl, HY⟩
  clear HO
  have HZ : Hid (Fr (On b) w w3 ∧ Rd s b B (s.size - r.length) c rv dv w3) := ⟨HX.out.1.trans HY.out.1, HY.out.2⟩
  clear HX HY
  have c5 : w3.cell? ⟨b, 5, none⟩ = some (.int .u8 (c.reg : Int)) := HZ.out.2.cell (i := 3) rfl
  have f5 : w3.frozen? ⟨b, 5, none⟩ = false := HZ.out.2.fz 5
  cases M with
  | true =>
    go_wp2_with fail
    go_ret
    exact .mk' rfl (HZ.out.1.trans (fr_set _ _ _ _)) fun _ => ⟨HL2.out.2, HL2.out.1, _, HZ.out.2.set 3 (.int .u8 (G : Int)) rfl rfl rfl⟩
  | false =>
    go_wp2_with fail
    go_ret
    exact .mk' rfl (HZ.out.1.trans (fr_set _ _ _ _)) fun q => (by cases q)
set_option maxHeartbeats 16000000 in
theorem sign_o (h : Rd s b B k c rv dv w) (hs : s.size ≤ 1000000) (hl : Lf s k l) :
    Calls Tryz.prog 79 #[.pointer (some ⟨b, 0, none⟩)] w fun e w' => e = .returned (.tuple #[.int .u8 ((((oneL sgnF (blkL l)).1.map UInt8.toNat).getD 0 : Nat) : Int), .bool (oneL sgnF (blkL l)).1.isSome]) ∧ Hid (Fr (On b) w w' ∧ Rd s b B (s.size - (oneL sgnF (blkL l)).2.length) c rv dv w') := by
  have HB1 : Hid (Calls Tryz.prog 35 #[.pointer (some ⟨b, 0, none⟩)] w fun e w' => e = .returned (.tuple #[]) ∧ Hid (Fr (On b) w w' ∧ Rd s b B (s.size - (blkL l).length) c rv dv w')) := (blanks_any h.pc hs hl).mono (by
    rintro e w' ⟨rfl, q1, q2⟩; exact ⟨rfl, q1, h.call q1 q2⟩)
  obtain ⟨l1, hl1⟩ : ∃ l1, blkL l = l1 := ⟨_, rfl⟩
  have hL1 : Lf s (s.size - l1.length) l1 := by rw [← hl1]; exact hl.suf (blkL_suf l)
  rw [hl1] at HB1
  have HO : Hid (∀ z, Rd s b B (s.size - l1.length) c rv dv z → Calls Tryz.prog 33 #[.pointer (some ⟨b, 0, none⟩), .func (.func 106) #[] #[]] z fun e w' => e = .returned (.tuple #[.int .u8 ((((oneL sgnF l1).1.map UInt8.toNat).getD 0 : Nat) : Int), .bool (oneL sgnF l1).1.isSome]) ∧ Hid (Fr (On b) z w' ∧ Rd s b B (s.size - (oneL sgnF l1).2.length) c rv dv w')) := fun z hz => (one_sgn hz.pc hs hL1).mono (by
    rintro e w' ⟨rfl, q1, q2⟩; exact ⟨rfl, q1, hz.call q1 q2⟩)
  have hL2 : Lf s (s.size - (oneL sgnF l1).2.length) (oneL sgnF l1).2 := hL1.suf (oneL_suf _ _)
  rw [hl1]
  obtain ⟨q, r, hq⟩ : ∃ q r, oneL sgnF l1 = (q, r) := ⟨_, _, rfl⟩
  simp only [hq] at HO ⊢
  obtain ⟨G, hG⟩ : ∃ G : Nat, (q.map UInt8.toNat).getD 0 = G := ⟨_, rfl⟩
  obtain ⟨M, hM⟩ : ∃ M : Bool, q.isSome = M := ⟨_, rfl⟩
  simp only [hG, hM] at HO ⊢
  clear hl1 hL1 hL2 hq hG hM h hl
  go_enter Tryz.func79, Tryz.ntmps79
  go_wp2_with fail
  refine Calls.mono HB1.out ?_
  rintro e w2 ⟨rfl, HX⟩
  clear HB1
  go_wp2_with fail
  refine Calls.mono (HO.out _ HX.out.2) ?_
  rintro e w3 ⟨rfl, HY⟩
  clear HO
  have HZ : Hid (Fr (On b) w w3 ∧ Rd s b B (s.size - r.length) c rv dv w3) := ⟨HX.out.1.trans HY.out.1, HY.out.2⟩
  clear HX HY
  go_wp2_with fail
  go_ret2
  exact ⟨rfl, HZ⟩
set_option maxHeartbeats 16000000 in
theorem again_o (h : Rd s b B k c rv dv w) (hs : s.size ≤ 1000000) (hl : Lf s k l) :
    Calls Tryz.prog 59 #[.pointer (some ⟨b, 0, none⟩)] w fun e w' => Aft s b B rv (againC c l) w e w' := by
  have HB1 : Hid (Calls Tryz.prog 35 #[.pointer (some ⟨b, 0, none⟩)] w fun e w' => e = .returned (.tuple #[]) ∧ Hid (Fr (On b) w w' ∧ Rd s b B (s.size - (blkL l).length) c rv dv w')) := (blanks_any h.pc hs hl).mono (by
    rintro e w' ⟨rfl, q1, q2⟩; exact ⟨rfl, q1, h.call q1 q2⟩)
  obtain ⟨l1, hl1⟩ : ∃ l1, blkL l = l1 := ⟨_, rfl⟩
  have hL1 : Lf s (s.size - l1.length) l1 := by rw [← hl1]; exact hl.suf (blkL_suf l)
  rw [hl1] at HB1
  have hL2 : Lf s (s.size - (l1.dropWhile flB).length) (l1.dropWhile flB) := hL1.dropW flB
  have hout : againC c l = numberC { c with flags := l1.takeWhile flB } (l1.dropWhile flB) := by unfold againC; rw [hl1]
  have hfz : (⟨(l1.takeWhile flB).toArray⟩ : ByteArray).size ≤ 1000000 := by
    have h1 := tw_le (p := flB) l1
    have h2 := hL1.len
    show (l1.takeWhile flB).toArray.size ≤ _
    simp; omega
  have HR : Hid (∀ z, Rd s b B (s.size - l1.length) c rv dv z → Calls Tryz.prog 66 #[.pointer (some ⟨b, 0, none⟩), .func (.func 84) #[] #[]] z fun e w' => e = .returned (.string ⟨(l1.takeWhile flB).toArray⟩) ∧ Hid (Fr (On b) z w' ∧ Rd s b B (s.size - (l1.dropWhile flB).length) c rv dv w')) := fun z hz => (run_flg hz.pc hs hL1).mono (by
    rintro e w' ⟨rfl, q1, q2⟩; exact ⟨rfl, q1, hz.call q1 q2⟩)
  have HC : Hid (∀ z, Calls Tryz.prog 83 #[.string ⟨(l1.takeWhile flB).toArray⟩] z fun e w' => e = .returned (.string ⟨(l1.takeWhile flB).toArray⟩) ∧ Kp z w') := fun z => clone_any _ hfz z
  obtain ⟨F, hF⟩ : ∃ F, l1.takeWhile flB = F := ⟨_, rfl⟩
  obtain ⟨r, hr⟩ : ∃ r, l1.dropWhile flB = r := ⟨_, rfl⟩
  rw [hF, hr] at HR hout
  rw [hF] at HC
  rw [hr] at hL2
  have HN : Hid (∀ z dv, Rd s b B (s.size - r.length) { c with flags := F } rv dv z → Calls Tryz.prog 51 #[.pointer (some ⟨b, 0, none⟩)] z fun e w' => Aft s b B rv (numberC { c with flags := F } r) z e w') := fun z dv hz => number_o hz hs hL2
  rw [hout]
  clear hout hl1 hL1 hL2 hF hr hfz h hl
  go_enter Tryz.func59, Tryz.ntmps59
  go_wp2_with fail
  refine Calls.mono HB1.out ?_
  rintro e w2 ⟨rfl, HX⟩
  clear HB1
  go_wp2_with fail
  refine Calls.mono (HR.out _ HX.out.2) ?_
  rintro e w3 ⟨rfl, HY⟩
  clear HR
  go_wp2_with fail
  refine Calls.mono (HC.out _) ?_
  rintro e w4 ⟨rfl, k4⟩
  clear HC
  have HZ : Hid (Fr (On b) w w4 ∧ Rd s b B (s.size - r.length) c rv dv w4) := ⟨(HX.out.1.trans HY.out.1).trans (Fr.of_below k4), HY.out.2.kp k4⟩
  clear HX HY k4
  have c10 : w4.cell? ⟨b, 10, none⟩ = some (.string (bA c.flags)) := HZ.out.2.cell (i := 8) rfl
  have f10 : w4.frozen? ⟨b, 10, none⟩ = false := HZ.out.2.fz 10
  go_wp2_with fail
  have HW : Hid (Fr (On b) w (w4.setCell ⟨b, 10, none⟩ (.string ⟨F.toArray⟩)) ∧ Rd s b B (s.size - r.length) { c with flags := F } rv dv (w4.setCell ⟨b, 10, none⟩ (.string ⟨F.toArray⟩))) := ⟨HZ.out.1.trans (fr_set _ _ _ _), HZ.out.2.set 8 (.string ⟨F.toArray⟩) rfl rfl rfl⟩
  refine Calls.mono (HN.out _ _ HW.out.2) ?_
  intro e w5 q
  have HY : Hid (Aft s b B rv (numberC { c with flags := F } r) w e w5) := q.tr HW.out.1
  clear HN HZ HW q c10 f10
  obtain rfl := HY.out.1
  go_wp2_with fail
  go_ret
  exact ⟨rfl, HY.out.2.1, HY.out.2.2⟩
set_option maxHeartbeats 16000000 in
theorem keys_o (h : Rd s b B k c rv dv w) (hs : s.size ≤ 1000000) (hl : Lf s k l) :
    Calls Tryz.prog 56 #[.pointer (some ⟨b, 0, none⟩)] w fun e w' => Aft s b B rv (keysC c l) w e w' := by
  have HO : Hid (Calls Tryz.prog 33 #[.pointer (some ⟨b, 0, none⟩), .func (.func 67) #[] #[]] w fun e w' => (∃ x y, e = .returned (.tuple #[.int .u8 x, .bool y])) ∧ Hid (Fr (On b) w w' ∧ Rd s b B (s.size - (oneL blkF l).2.length) c rv dv w')) := (one_blk h.pc hs hl).mono (by
    rintro e w' ⟨rfl, q1, q2⟩; exact ⟨⟨_, _, rfl⟩, q1, h.call q1 q2⟩)
  have hL : Lf s (s.size - (oneL blkF l).2.length) (oneL blkF l).2 := hl.suf (oneL_suf _ _)
  have hout : keysC c l = (if (oneL blkF l).2 = [] then (151, c, []) else (0, { c with arg := (oneL blkF l).2 }, [])) := rfl
  obtain ⟨r, hr⟩ : ∃ r, (oneL blkF l).2 = r := ⟨_, rfl⟩
  rw [hr] at HO hL hout
  have HA : Hid (∀ z, Rd s b B (s.size - r.length) c rv dv z → Calls Tryz.prog 81 #[.pointer (some ⟨b, 0, none⟩)] z fun e w' => e = .returned (.string ⟨r.toArray⟩) ∧ Hid (Fr (On b) z w' ∧ Rd s b B s.size c rv dv w')) := fun z hz => (call_any hz.pc hs hL).mono (by
    rintro e w' ⟨rfl, q1, q2⟩; exact ⟨rfl, q1, hz.call q1 q2⟩)
  obtain ⟨Oo, hO⟩ : ∃ Oo : Out, (if r = [] then (151, c, []) else (0, { c with arg := r }, [])) = Oo := ⟨_, rfl⟩
  rw [hout, hO]
  have HOt : Hid _ := hO
  clear hout hr hL h hl hO
  go_enter Tryz.func56, Tryz.ntmps56
  go_wp2_with fail
  refine Calls.mono HO.out ?_
  rintro e w2 ⟨⟨x, y, rfl⟩, HX⟩
  clear HO
  go_wp2_with fail
  refine Calls.mono (HA.out _ HX.out.2) ?_
  rintro e w3 ⟨rfl, HY⟩
  clear HA
  have HZ : Hid (Fr (On b) w w3 ∧ Rd s b B s.size c rv dv w3) := ⟨HX.out.1.trans HY.out.1, HY.out.2⟩
  clear HX HY
  have c11 : w3.cell? ⟨b, 11, none⟩ = some (.string (bA c.arg)) := HZ.out.2.cell (i := 9) rfl
  have f11 : w3.frozen? ⟨b, 11, none⟩ = false := HZ.out.2.fz 11
  go_upto_region 3 with fail
  have HW : Hid (Fr (On b) w (w3.setCell ⟨b, 11, none⟩ (.string ⟨r.toArray⟩)) ∧ Rd s b B s.size { c with arg := r } rv dv (w3.setCell ⟨b, 11, none⟩ (.string ⟨r.toArray⟩))) := ⟨HZ.out.1.trans (fr_set _ _ _ _), HZ.out.2.set 9 (.string ⟨r.toArray⟩) rfl rfl rfl⟩
  obtain ⟨W4, hW4⟩ : ∃ z, w3.setCell ⟨b, 11, none⟩ (.string ⟨r.toArray⟩) = z := ⟨_, rfl⟩
  rw [hW4] at HW ⊢
  clear hW4 HZ c11 f11
  have c11 : W4.cell? ⟨b, 11, none⟩ = some (.string ⟨r.toArray⟩) := HW.out.2.cell (i := 9) rfl
  by_cases h0 : r = []
  · subst h0
    have hO3 := HOt.out
    rw [if_pos rfl] at hO3
    have HO4 : Hid _ := hO3
    clear hO3 HOt
    go_wp2_with fail
    go_ret
    have e := HO4.out
    subst e
    exact .mk' rfl HW.out.1 fun q => (by cases q)
  · have g1 : (⟨r.toArray⟩ : ByteArray).toList.isEmpty = false := str_ne h0
    have HO3 : Hid _ := HOt.out
    have hO3 := HO3.out
    rw [if_neg h0] at hO3
    have HO4 : Hid _ := hO3
    clear hO3 HO3 HOt
    obtain ⟨X, hX⟩ : ∃ X : ByteArray, (⟨r.toArray⟩ : ByteArray) = X := ⟨_, rfl⟩
    rw [hX] at g1 c11
    clear hX h0
    go_wp2_with fail
    go_ret
    have e := HO4.out
    subst e
    exact .mk' rfl HW.out.1 fun _ => ⟨Nat.zero_le _, Lf.nil_ s, _, HW.out.2⟩
set_option maxHeartbeats 16000000 in
theorem nothing_o (h : Rd s b B k c rv dv w) (hs : s.size ≤ 1000000) (hl : Lf s k l) :
    Calls Tryz.prog 57 #[.pointer (some ⟨b, 0, none⟩)] w fun e w' => Aft s b B rv ((0, c, l)) w e w' := by
  have HX : Hid (l.length ≤ s.size ∧ Lf s (s.size - l.length) l ∧ Rd s b B (s.size - l.length) c rv dv w) := ⟨by have := hl.len; omega, by rw [← hl.pos]; exact hl, by rw [← hl.pos]; exact h⟩
  clear h hl
  go_enter Tryz.func57, Tryz.ntmps57
  go_wp2_with fail
  go_ret
  exact .mk' rfl (Fr.refl _ _) fun _ => ⟨HX.out.1, HX.out.2.1, _, HX.out.2.2⟩
end
end Go.Proofs.YtfgapmfjfienhaaGreatDoor
/- What follows a name: signs, addresses. -/
namespace Go.Proofs.YtfgapmfjfienhaaGreatDoor
open Go.ChangeShapes Go.WideShapes Go.ChangeAt Go.RowKit Go.Maps Go.MapKept
set_option linter.unusedVariables false
set_option linter.unusedSimpArgs false
set_option maxRecDepth 100000
section
variable {s : ByteArray} {b B k j : Nat} {c c' : CmP} {rv dv v : Value} {w w1 w2 : World} {l : List UInt8}
set_option maxHeartbeats 16000000 in
theorem subst_o (h : Rd s b B k c rv dv w) (hs : s.size ≤ 1000000) (hl : Lf s k l) :
    Calls Tryz.prog 54 #[.pointer (some ⟨b, 0, none⟩)] w fun e w' => Aft s b B rv (substC c l) w e w' := by
  have HS : Hid _ := sign_o h hs hl
  have hLq := hl.suf ((oneL_suf sgnF (blkL l)).trans (blkL_suf l))
  obtain ⟨q, r, hq⟩ : ∃ q r, oneL sgnF (blkL l) = (q, r) := ⟨_, _, rfl⟩
  simp only [hq] at HS hLq
  cases q with
  | none =>
    have hout : substC c l = againC c r := by unfold substC; simp only [hq]
    have HN : Hid (∀ z dv, Rd s b B (s.size - r.length) c rv dv z → Calls Tryz.prog 59 #[.pointer (some ⟨b, 0, none⟩)] z fun e w' => Aft s b B rv (againC c r) z e w') := fun z dv hz => again_o hz hs hLq
    rw [hout]
    clear hout hq hLq h hl
    have HS2 : Hid (Calls Tryz.prog 79 #[.pointer (some ⟨b, 0, none⟩)] w fun e w' => e = .returned (.tuple #[.int .u8 0, .bool false]) ∧ Hid (Fr (On b) w w' ∧ Rd s b B (s.size - r.length) c rv dv w')) := HS.out
    clear HS
    go_enter Tryz.func54, Tryz.ntmps54
    go_wp2_with fail
    refine Calls.mono HS2.out ?_
    rintro e w2 ⟨rfl, HX⟩
    clear HS2
    go_wp2_with fail
    refine Calls.mono (HN.out _ _ HX.out.2) ?_
    intro e w3 q
    have HY : Hid (Aft s b B rv (againC c r) w e w3) := q.tr HX.out.1
    clear HN HX q
    obtain rfl := HY.out.1
    go_wp2_with fail
    go_ret
    exact ⟨rfl, HY.out.2.1, HY.out.2.2⟩
  | some g =>
    have hout : substC c l = againC { c with pat := (upL g r).1, rep := (upL g (upL g r).2).1, arg := [61] } (upL g (upL g r).2).2 := by unfold substC; simp only [hq]
    have HU1 : Hid (∀ z c dv, Rd s b B (s.size - r.length) c rv dv z → Calls Tryz.prog 80 #[.pointer (some ⟨b, 0, none⟩), .int .u8 (g.toNat : Int)] z fun e w' => e = .returned (.string ⟨(upL g r).1.toArray⟩) ∧ Hid (Fr (On b) z w' ∧ Rd s b B (s.size - (upL g r).2.length) c rv dv w')) := fun z c dv hz => (cupto_any hz.pc hs hLq g).mono (by
      rintro e w' ⟨rfl, q1, q2⟩; exact ⟨rfl, q1, hz.call q1 q2⟩)
    obtain ⟨t1, r1, hu1⟩ : ∃ t r', upL g r = (t, r') := ⟨_, _, rfl⟩
    have hsf1 := upL_suf g r
    simp only [hu1] at HU1 hsf1
    have hLu1 := hLq.suf hsf1
    have HU2 : Hid (∀ z c dv, Rd s b B (s.size - r1.length) c rv dv z → Calls Tryz.prog 80 #[.pointer (some ⟨b, 0, none⟩), .int .u8 (g.toNat : Int)] z fun e w' => e = .returned (.string ⟨(upL g r1).1.toArray⟩) ∧ Hid (Fr (On b) z w' ∧ Rd s b B (s.size - (upL g r1).2.length) c rv dv w')) := fun z c dv hz => (cupto_any hz.pc hs hLu1 g).mono (by
      rintro e w' ⟨rfl, q1, q2⟩; exact ⟨rfl, q1, hz.call q1 q2⟩)
    obtain ⟨t2, r2, hu2⟩ : ∃ t r', upL g r1 = (t, r') := ⟨_, _, rfl⟩
    have hsf2 := upL_suf g r1
    simp only [hu2] at HU2 hsf2
    have hLu2 := hLu1.suf hsf2
    simp only [hu1, hu2] at hout
    have HN : Hid (∀ z dv, Rd s b B (s.size - r2.length) { c with pat := t1, rep := t2, arg := [61] } rv dv z → Calls Tryz.prog 59 #[.pointer (some ⟨b, 0, none⟩)] z fun e w' => Aft s b B rv (againC { c with pat := t1, rep := t2, arg := [61] } r2) z e w') := fun z dv hz => again_o hz hs hLu2
    rw [hout]
    clear hout hq hLq h hl hu1 hu2 hsf1 hsf2 hLu1 hLu2
    have HS2 : Hid (Calls Tryz.prog 79 #[.pointer (some ⟨b, 0, none⟩)] w fun e w' => e = .returned (.tuple #[.int .u8 (g.toNat : Int), .bool true]) ∧ Hid (Fr (On b) w w' ∧ Rd s b B (s.size - r.length) c rv dv w')) := HS.out
    clear HS
    go_enter Tryz.func54, Tryz.ntmps54
    go_wp2_with fail
    refine Calls.mono HS2.out ?_
    rintro e w2 ⟨rfl, HX⟩
    clear HS2
    go_wp2_with fail
    refine Calls.mono (HU1.out _ _ _ HX.out.2) ?_
    rintro e w3 ⟨rfl, HY⟩
    clear HU1
    have HZ : Hid (Fr (On b) w w3 ∧ Rd s b B (s.size - r1.length) c rv dv w3) := ⟨HX.out.1.trans HY.out.1, HY.out.2⟩
    clear HX HY
    have c8 : w3.cell? ⟨b, 8, none⟩ = some (.string (bA c.pat)) := HZ.out.2.cell (i := 6) rfl
    have f8 : w3.frozen? ⟨b, 8, none⟩ = false := HZ.out.2.fz 8
    go_upto_region 4 with fail
    have HW : Hid (Fr (On b) w (w3.setCell ⟨b, 8, none⟩ (.string ⟨t1.toArray⟩)) ∧ Rd s b B (s.size - r1.length) { c with pat := t1 } rv dv (w3.setCell ⟨b, 8, none⟩ (.string ⟨t1.toArray⟩))) := ⟨HZ.out.1.trans (fr_set _ _ _ _), HZ.out.2.set 6 (.string ⟨t1.toArray⟩) rfl rfl rfl⟩
    obtain ⟨W4, hW4⟩ : ∃ z, w3.setCell ⟨b, 8, none⟩ (.string ⟨t1.toArray⟩) = z := ⟨_, rfl⟩
    rw [hW4] at HW ⊢
    clear hW4 HZ c8 f8
    go_wp2_with fail
    refine Calls.mono (HU2.out _ _ _ HW.out.2) ?_
    rintro e w5 ⟨rfl, HY⟩
    clear HU2
    have HZ : Hid (Fr (On b) w w5 ∧ Rd s b B (s.size - r2.length) { c with pat := t1 } rv dv w5) := ⟨HW.out.1.trans HY.out.1, HY.out.2⟩
    clear HW HY
    have c9 : w5.cell? ⟨b, 9, none⟩ = some (.string (bA c.rep)) := HZ.out.2.cell (i := 7) rfl
    have f9 : w5.frozen? ⟨b, 9, none⟩ = false := HZ.out.2.fz 9
    go_upto_region 5 with fail
    have HW : Hid (Fr (On b) w (w5.setCell ⟨b, 9, none⟩ (.string ⟨t2.toArray⟩)) ∧ Rd s b B (s.size - r2.length) { c with pat := t1, rep := t2 } rv dv (w5.setCell ⟨b, 9, none⟩ (.string ⟨t2.toArray⟩))) := ⟨HZ.out.1.trans (fr_set _ _ _ _), HZ.out.2.set 7 (.string ⟨t2.toArray⟩) rfl rfl rfl⟩
    obtain ⟨W6, hW6⟩ : ∃ z, w5.setCell ⟨b, 9, none⟩ (.string ⟨t2.toArray⟩) = z := ⟨_, rfl⟩
    rw [hW6] at HW ⊢
    clear hW6 HZ c9 f9
    have c11 : W6.cell? ⟨b, 11, none⟩ = some (.string (bA c.arg)) := HW.out.2.cell (i := 9) rfl
    have f11 : W6.frozen? ⟨b, 11, none⟩ = false := HW.out.2.fz 11
    go_upto_region 6 with fail
    have HZ : Hid (Fr (On b) w (W6.setCell ⟨b, 11, none⟩ (.string ⟨#[61]⟩)) ∧ Rd s b B (s.size - r2.length) { c with pat := t1, rep := t2, arg := [61] } rv dv (W6.setCell ⟨b, 11, none⟩ (.string ⟨#[61]⟩))) := ⟨HW.out.1.trans (fr_set _ _ _ _), HW.out.2.set 9 (.string ⟨#[61]⟩) rfl rfl rfl⟩
    obtain ⟨W7, hW7⟩ : ∃ z, W6.setCell ⟨b, 11, none⟩ (.string ⟨#[61]⟩) = z := ⟨_, rfl⟩
    rw [hW7] at HZ ⊢
    clear hW7 HW c11 f11
    go_wp2_with fail
    refine Calls.mono (HN.out _ _ HZ.out.2) ?_
    intro e w8 q
    have HY : Hid (Aft s b B rv (againC { c with pat := t1, rep := t2, arg := [61] } r2) w e w8) := q.tr HZ.out.1
    clear HN HZ q
    obtain rfl := HY.out.1
    go_wp2_with fail
    go_ret
    exact ⟨rfl, HY.out.2.1, HY.out.2.2⟩
set_option maxHeartbeats 16000000 in
theorem visits_o (h : Rd s b B k c rv dv w) (hs : s.size ≤ 1000000) (hl : Lf s k l) :
    Calls Tryz.prog 55 #[.pointer (some ⟨b, 0, none⟩)] w fun e w' => Aft s b B rv (visitsC c l) w e w' := by
  have HS : Hid _ := sign_o h hs hl
  have hLq := hl.suf ((oneL_suf sgnF (blkL l)).trans (blkL_suf l))
  obtain ⟨q, r, hq⟩ : ∃ q r, oneL sgnF (blkL l) = (q, r) := ⟨_, _, rfl⟩
  simp only [hq] at HS hLq
  cases q with
  | none =>
    have hout : visitsC c l = (150, c, r) := by unfold visitsC; simp only [hq]
    rw [hout]
    clear hout hq hLq h hl
    have HS2 : Hid (Calls Tryz.prog 79 #[.pointer (some ⟨b, 0, none⟩)] w fun e w' => e = .returned (.tuple #[.int .u8 0, .bool false]) ∧ Hid (Fr (On b) w w' ∧ Rd s b B (s.size - r.length) c rv dv w')) := HS.out
    clear HS
    go_enter Tryz.func55, Tryz.ntmps55
    go_wp2_with fail
    refine Calls.mono HS2.out ?_
    rintro e w2 ⟨rfl, HX⟩
    clear HS2
    go_wp2_with fail
    go_ret
    exact .mk' rfl HX.out.1 fun q => (by cases q)
  | some g =>
    have hout : visitsC c l = (0, { c with pat := (upL g r).1, arg := if (upL g r).2 = [] then [112] else (upL g r).2 }, []) := by unfold visitsC; simp only [hq]
    have HU1 : Hid (∀ z c dv, Rd s b B (s.size - r.length) c rv dv z → Calls Tryz.prog 80 #[.pointer (some ⟨b, 0, none⟩), .int .u8 (g.toNat : Int)] z fun e w' => e = .returned (.string ⟨(upL g r).1.toArray⟩) ∧ Hid (Fr (On b) z w' ∧ Rd s b B (s.size - (upL g r).2.length) c rv dv w')) := fun z c dv hz => (cupto_any hz.pc hs hLq g).mono (by
      rintro e w' ⟨rfl, q1, q2⟩; exact ⟨rfl, q1, hz.call q1 q2⟩)
    obtain ⟨t1, r1, hu1⟩ : ∃ t r', upL g r = (t, r') := ⟨_, _, rfl⟩
    have hsf1 := upL_suf g r
    simp only [hu1] at HU1 hsf1
    have hLu1 := hLq.suf hsf1
    simp only [hu1] at hout
    have HA : Hid (∀ z c dv, Rd s b B (s.size - r1.length) c rv dv z → Calls Tryz.prog 81 #[.pointer (some ⟨b, 0, none⟩)] z fun e w' => e = .returned (.string ⟨r1.toArray⟩) ∧ Hid (Fr (On b) z w' ∧ Rd s b B s.size c rv dv w')) := fun z c dv hz => (call_any hz.pc hs hLu1).mono (by
      rintro e w' ⟨rfl, q1, q2⟩; exact ⟨rfl, q1, hz.call q1 q2⟩)
    obtain ⟨Oo, hO⟩ : ∃ Oo : Out, (0, { c with pat := t1, arg := if r1 = [] then [112] else r1 }, []) = Oo := ⟨_, rfl⟩
    rw [hout, hO]
    have HOt : Hid _ := hO
    clear hout hq hLq h hl hu1 hsf1 hLu1 hO
    have HS2 : Hid (Calls Tryz.prog 79 #[.pointer (some ⟨b, 0, none⟩)] w fun e w' => e = .returned (.tuple #[.int .u8 (g.toNat : Int), .bool true]) ∧ Hid (Fr (On b) w w' ∧ Rd s b B (s.size - r.length) c rv dv w')) := HS.out
    clear HS
    go_enter Tryz.func55, Tryz.ntmps55
    go_wp2_with fail
    refine Calls.mono HS2.out ?_
    rintro e w2 ⟨rfl, HX⟩
    clear HS2
    go_wp2_with fail
    refine Calls.mono (HU1.out _ _ _ HX.out.2) ?_
    rintro e w3 ⟨rfl, HY⟩
    clear HU1
    have HZ : Hid (Fr (On b) w w3 ∧ Rd s b B (s.size - r1.length) c rv dv w3) := ⟨HX.out.1.trans HY.out.1, HY.out.2⟩
    clear HX HY
    have c8 : w3.cell? ⟨b, 8, none⟩ = some (.string (bA c.pat)) := HZ.out.2.cell (i := 6) rfl
    have f8 : w3.frozen? ⟨b, 8, none⟩ = false := HZ.out.2.fz 8
    go_upto_region 5 with fail
    have HW : Hid (Fr (On b) w (w3.setCell ⟨b, 8, none⟩ (.string ⟨t1.toArray⟩)) ∧ Rd s b B (s.size - r1.length) { c with pat := t1 } rv dv (w3.setCell ⟨b, 8, none⟩ (.string ⟨t1.toArray⟩))) := ⟨HZ.out.1.trans (fr_set _ _ _ _), HZ.out.2.set 6 (.string ⟨t1.toArray⟩) rfl rfl rfl⟩
    obtain ⟨W4, hW4⟩ : ∃ z, w3.setCell ⟨b, 8, none⟩ (.string ⟨t1.toArray⟩) = z := ⟨_, rfl⟩
    rw [hW4] at HW ⊢
    clear hW4 HZ c8 f8
    go_wp2_with fail
    refine Calls.mono (HA.out _ _ _ HW.out.2) ?_
    rintro e w5 ⟨rfl, HY⟩
    clear HA
    have HZ : Hid (Fr (On b) w w5 ∧ Rd s b B s.size { c with pat := t1 } rv dv w5) := ⟨HW.out.1.trans HY.out.1, HY.out.2⟩
    clear HW HY
    have c11 : w5.cell? ⟨b, 11, none⟩ = some (.string (bA c.arg)) := HZ.out.2.cell (i := 9) rfl
    have f11 : w5.frozen? ⟨b, 11, none⟩ = false := HZ.out.2.fz 11
    go_upto_region 6 with fail
    have HW : Hid (Fr (On b) w (w5.setCell ⟨b, 11, none⟩ (.string ⟨r1.toArray⟩)) ∧ Rd s b B s.size { c with pat := t1, arg := r1 } rv dv (w5.setCell ⟨b, 11, none⟩ (.string ⟨r1.toArray⟩))) := ⟨HZ.out.1.trans (fr_set _ _ _ _), HZ.out.2.set 9 (.string ⟨r1.toArray⟩) rfl rfl rfl⟩
    obtain ⟨W6, hW6⟩ : ∃ z, w5.setCell ⟨b, 11, none⟩ (.string ⟨r1.toArray⟩) = z := ⟨_, rfl⟩
    rw [hW6] at HW ⊢
    clear hW6 HZ c11 f11
    have c11 : W6.cell? ⟨b, 11, none⟩ = some (.string ⟨r1.toArray⟩) := HW.out.2.cell (i := 9) rfl
    have f11 : W6.frozen? ⟨b, 11, none⟩ = false := HW.out.2.fz 11
    by_cases h0 : r1 = []
    · subst h0
      have hO3 := HOt.out
      rw [if_pos rfl] at hO3
      have HO4 : Hid _ := hO3
      clear hO3 HOt
      go_wp2_with fail
      go_ret
      have e := HO4.out
      subst e
      exact .mk' rfl (HW.out.1.trans (fr_set _ _ _ _)) fun _ => ⟨Nat.zero_le _, Lf.nil_ s, _, HW.out.2.set 9 (.string ⟨#[112]⟩) rfl rfl rfl⟩
    · have g1 : (⟨r1.toArray⟩ : ByteArray).toList.isEmpty = false := str_ne h0
      have hO3 := HOt.out
      rw [if_neg h0] at hO3
      have HO4 : Hid _ := hO3
      clear hO3 HOt
      obtain ⟨X, hX⟩ : ∃ X : ByteArray, (⟨r1.toArray⟩ : ByteArray) = X := ⟨_, rfl⟩
      rw [hX] at g1 c11
      clear hX h0
      go_wp2_with fail
      go_ret
      have e := HO4.out
      subst e
      exact .mk' rfl HW.out.1 fun _ => ⟨Nat.zero_le _, Lf.nil_ s, _, HW.out.2⟩
/-- What addresses answers. -/
structure CaR (s : ByteArray) (b B k : Nat) (c : CmP) (rv dv : Value) (R : Option (List AdP × List UInt8)) (w : World) (e : Ending) (w' : World) : Prop where
  yes : ∀ xs r, R = some (xs, r) → (∃ v, e = .returned (.tuple #[v, .int .u16 0]) ∧ w'.ownsRow B 43 6 v xs.length (adCs xs)) ∧ Fr (On b) w w' ∧ Rd s b B (s.size - r.length) c rv dv w'
  no : R = none → e = .returned (.tuple #[.slice none 0 0, .int .u16 141]) ∧ Fr (On b) w w' ∧ ∃ k, Rd s b B k c rv dv w'
theorem parL_suf {l r : List UInt8} {xs : List AdP} (h : parL l = some (xs, r)) : r <:+ l := by
  have hA : ∀ (f : Nat) (l : List UInt8) (acc : List AdP) {xs : List AdP} {r : List UInt8}, adsL f l acc = some (xs, r) → r <:+ l := by
    intro f
    induction f with
    | zero => intro l acc xs r h; cases h
    | succ f ih =>
      intro l acc xs r h
      unfold adsL at h
      split at h
      · cases h
      · rename_i a r0 h0
        simp only at h
        have s1 := (dropW_suf (p := bkB) _).trans ((signL_suf _).trans ((dropW_suf (p := bkB) r0).trans (addrL_suf h0)))
        split at h
        · cases h; exact s1
        · split at h
          · cases h; exact s1
          · exact (ih _ _ h).trans s1
  unfold parL at h
  split at h
  · rename_i e
    exact (hA _ _ _ h).trans List.nil_suffix
  · rename_i a t e
    have s0 : a :: t <:+ l := by rw [← e]; exact dropW_suf l
    split at h
    · cases h; exact ((dropW_suf t).trans ⟨[a], rfl⟩).trans s0
    · exact (hA _ _ _ h).trans s0
set_option maxHeartbeats 16000000 in
theorem caddr_o (h : Rd s b B k c rv dv w) (hs : s.size ≤ 1000000) (hl : Lf s k l) :
    Calls Tryz.prog 30 #[.pointer (some ⟨b, 0, none⟩)] w fun e w' => CaR s b B k c rv dv (parL l) w e w' := by
  have HR : Hid _ := rest_any h.pc hs hl
  have hXs : (⟨l.toArray⟩ : ByteArray).size = l.length := by show l.toArray.size = _; simp
  have hlk := hl.len
  have hk := hl.1
  have HP : Hid (∀ z, Calls Tryz.prog 65 #[.string ⟨l.toArray⟩] z fun e w' => ApR ⟨l.toArray⟩ (parL l) z e w') := fun z => by
    have := aparse_any ⟨l.toArray⟩ (by rw [hXs]; omega) z
    simpa using this
  have H0 : Hid (∀ z, Kp w z → Fr (On b) w z ∧ Rd s b B k c rv dv z) := fun z q => ⟨Fr.of_below q, h.kp q⟩
  have hBw : B ≤ w.heap.size := by have := h.hB; have := h.lt; omega
  have hsf : ∀ xs r, parL l = some (xs, r) → r.length ≤ l.length := fun xs r q => (parL_suf q).length_le
  obtain ⟨R, hR⟩ : ∃ R, parL l = R := ⟨_, rfl⟩
  rw [hR] at HP hsf
  rw [hR]
  clear h hl hR
  go_enter Tryz.func30, Tryz.ntmps30
  go_wp2_with fail
  refine Calls.mono HR.out ?_
  rintro e w2 ⟨rfl, q, rfl⟩
  clear HR
  go_wp2_with fail
  refine Calls.mono (HP.out _) ?_
  clear HP
  intro e w3 qq
  cases R with
  | none =>
    obtain ⟨rfl, k3⟩ := qq.no rfl
    obtain ⟨x1, x2⟩ := H0.out w3 (kp_trans (kp_drewN _ q) k3)
    have HX : Hid (Fr (On b) w w3 ∧ Rd s b B k c rv dv w3) := ⟨x1, x2⟩
    clear qq k3 x1 x2 H0 hsf
    have c1 := HX.out.2.pc.c1
    have f1 := HX.out.2.pc.f1
    go_wp2_with fail
    go_ret2
    exact ⟨fun xs r e => (by cases e), fun _ => ⟨rfl, HX.out.1.trans (fr_set _ _ _ _), k, HX.out.2.call (fr_set _ _ _ _) (by have := HX.out.2.pc.to k; simpa using this)⟩⟩
  | some p =>
    obtain ⟨xs, r⟩ := p
    obtain ⟨⟨v, rfl, hv⟩, k3⟩ := qq.yes _ _ rfl
    obtain ⟨x1, x2⟩ := H0.out w3 (kp_trans (kp_drewN _ q) k3)
    have hrl := hsf _ _ rfl
    have HX : Hid (Fr (On b) w w3 ∧ Rd s b B k c rv dv w3 ∧ w3.ownsRow B 43 6 v xs.length (adCs xs)) := ⟨x1, x2, row_lift hv fun j e => by
      have := (hv.lt j e).1
      rw [drewN_heap] at this
      omega⟩
    obtain ⟨M, hM⟩ : ∃ M, (⟨l.toArray⟩ : ByteArray).size - r.length = M := ⟨_, rfl⟩
    rw [hM]
    have HKM : Hid (s.size - r.length = k + M) := by
      rw [hXs] at hM
      show _ = _
      omega
    have hM6 : M ≤ 1000000 := by rw [hXs] at hM; omega
    have hk6 : k ≤ 1000000 := by omega
    clear qq k3 x1 x2 H0 hsf hv hM hrl hXs hlk
    have c1 := HX.out.2.1.pc.c1
    have f1 := HX.out.2.1.pc.f1
    go_wp2_with fail
    have HY : Hid (Fr (On b) w (w3.setCell ⟨b, 1, none⟩ (.int .i64 ((k : Int) + (M : Int)))) ∧ Rd s b B (k + M) c rv dv (w3.setCell ⟨b, 1, none⟩ (.int .i64 ((k : Int) + (M : Int)))) ∧ (w3.setCell ⟨b, 1, none⟩ (.int .i64 ((k : Int) + (M : Int)))).ownsRow B 43 6 v xs.length (adCs xs)) :=
      ⟨HX.out.1.trans (fr_set _ _ _ _), HX.out.2.1.call (fr_set _ _ _ _) (by have := HX.out.2.1.pc.to (k + M); simpa using this), row_fr HX.out.2.2 (fr_set _ _ _ _) fun i e hi => Rd.row_off HX.out.2.1.pc HX.out.2.2 i e hi⟩
    go_ret2
    exact ⟨fun xs r e => by cases e; exact ⟨⟨v, rfl, HY.out.2.2⟩, HY.out.1, by rw [HKM.out]; exact HY.out.2.1⟩, fun e => by cases e⟩
theorem Rd.dest (h : Rd s b B k c rv dv w) {xs : List AdP} (r : w.ownsRow B 43 6 v xs.length (adCs xs)) : Rd s b B k { c with dest := xs } rv v (w.setCell ⟨b, 7, none⟩ v) := by
  have p : Pc 49 s k (cmC { c with dest := xs } rv v) b (w.setCell ⟨b, 7, none⟩ v) := Lc.set h.pc 7 v
  exact ⟨p, row_fr h.rr (fr_set _ _ _ _) fun i e hi => Rd.row_off h.pc h.rr i e hi, row_fr r (fr_set _ _ _ _) fun i e hi => Rd.row_off h.pc r i e hi, h.hB⟩
theorem Rd.range (h : Rd s b B k c rv dv w) {xs : List AdP} (r : w.ownsRow B 43 6 v xs.length (adCs xs)) : Rd s b B k { c with rg := xs } v dv (w.setCell ⟨b, 2, none⟩ v) := by
  have p : Pc 49 s k (cmC { c with rg := xs } v dv) b (w.setCell ⟨b, 2, none⟩ v) := Lc.set h.pc 2 v
  exact ⟨p, row_fr r (fr_set _ _ _ _) fun i e hi => Rd.row_off h.pc r i e hi, row_fr h.rd (fr_set _ _ _ _) fun i e hi => Rd.row_off h.pc h.rd i e hi, h.hB⟩
set_option maxHeartbeats 16000000 in
theorem dest_o (h : Rd s b B k c rv dv w) (hs : s.size ≤ 1000000) (hl : Lf s k l) :
    Calls Tryz.prog 50 #[.pointer (some ⟨b, 0, none⟩)] w fun e w' => Aft s b B rv (destC c l) w e w' := by
  have HA : Hid (Calls Tryz.prog 30 #[.pointer (some ⟨b, 0, none⟩)] w fun e w' => CaR s b B k c rv dv (parL l) w e w') := caddr_o h hs hl
  have hsf : ∀ xs r, parL l = some (xs, r) → Lf s (s.size - r.length) r := fun xs r q => hl.suf (parL_suf q)
  unfold destC
  cases hR : parL l with
  | none =>
    rw [hR] at HA
    clear h hl hR hsf
    go_enter Tryz.func50, Tryz.ntmps50
    go_wp2_with fail
    refine Calls.mono HA.out ?_
    intro e w2 qq
    obtain ⟨rfl, q1, _⟩ := qq.no rfl
    have HX : Hid (Fr (On b) w w2) := q1
    clear qq q1 HA
    go_wp2_with fail
    go_ret
    exact .mk' rfl HX.out fun q => (by cases q)
  | some p =>
    obtain ⟨xs, r⟩ := p
    rw [hR] at HA
    have hL := hsf _ _ hR
    simp only
    have HL : Hid (Lf s (s.size - r.length) r ∧ r.length ≤ s.size) := ⟨hL, by have := hL.len; omega⟩
    clear hsf hR h hl hL
    by_cases h1 : xs.length = 1
    · simp only [if_pos h1]
      have g1 : ((xs.length : Int) == 1) = true := by rw [beq_iff_eq]; omega
      go_enter Tryz.func50, Tryz.ntmps50
      go_wp2_with fail
      refine Calls.mono HA.out ?_
      intro e w2 qq
      obtain ⟨⟨v, rfl, hv⟩, q1, q2⟩ := qq.yes _ _ rfl
      obtain ⟨va, vc, rfl, _, _⟩ := owns_form hv
      have HX : Hid (Fr (On b) w w2 ∧ Rd s b B (s.size - r.length) c rv dv w2 ∧ w2.ownsRow B 43 6 (.slice va xs.length vc) xs.length (adCs xs)) := ⟨q1, q2, hv⟩
      clear qq q1 q2 hv HA
      have c7 : w2.cell? ⟨b, 7, none⟩ = some dv := HX.out.2.1.cell (i := 5) rfl
      have f7 : w2.frozen? ⟨b, 7, none⟩ = false := HX.out.2.1.fz 7
      clear h1
      go_wp2_with fail
      go_ret
      exact .mk' rfl (HX.out.1.trans (fr_set _ _ _ _)) fun _ => ⟨HL.out.2, HL.out.1, _, HX.out.2.1.dest HX.out.2.2⟩
    · simp only [if_neg h1]
      have g1 : ((xs.length : Int) == 1) = false := by rw [beq_eq_false_iff_ne]; omega
      go_enter Tryz.func50, Tryz.ntmps50
      go_wp2_with fail
      refine Calls.mono HA.out ?_
      intro e w2 qq
      obtain ⟨⟨v, rfl, hv⟩, q1, q2⟩ := qq.yes _ _ rfl
      obtain ⟨va, vc, rfl, _, _⟩ := owns_form hv
      have HX : Hid (Fr (On b) w w2) := q1
      clear qq q1 q2 hv HA h1
      go_wp2_with fail
      go_ret
      exact .mk' rfl HX.out fun q => (by cases q)
end
end Go.Proofs.YtfgapmfjfienhaaGreatDoor
/- A shift. -/
namespace Go.Proofs.YtfgapmfjfienhaaGreatDoor
open Go.ChangeShapes Go.WideShapes Go.ChangeAt Go.RowKit Go.Maps Go.MapKept
set_option linter.unusedVariables false
set_option linter.unusedSimpArgs false
set_option maxRecDepth 100000
theorem bA_app (a b : List UInt8) : bA a ++ bA b = bA (a ++ b) := by
  apply ByteArray.ext
  rw [ByteArray.data_append]
  simp [bA]
section
variable {s : ByteArray} {b B k j : Nat} {c c' : CmP} {rv dv v : Value} {w w1 w2 : World} {l : List UInt8}
set_option maxHeartbeats 32000000 in
theorem shift_o (h : Rd s b B k c rv dv w) (hs : s.size ≤ 1000000) (hl : Lf s k l) {g : UInt8} {t : List UInt8} (hn : c.name = g :: t) (hg : g.toNat < 128) (ht : t.length ≤ 100) :
    Calls Tryz.prog 58 #[.pointer (some ⟨b, 0, none⟩)] w fun e w' => Aft s b B rv (shiftC c l) w e w' := by
  have hout : shiftC c l = numberC { c with arg := c.name ++ l.takeWhile (fun a => a == g) } (l.dropWhile fun a => a == g) := by unfold shiftC; rw [hn]; rfl
  have hL2 : Lf s (s.size - (l.dropWhile fun a => a == g).length) (l.dropWhile fun a => a == g) := hl.dropW _
  have hap := List.takeWhile_append_dropWhile (p := fun a : UInt8 => a == g) (l := l)
  have hlk := hl.len
  obtain ⟨p, hp⟩ : ∃ p, w.heap.size = p := ⟨_, rfl⟩
  obtain ⟨W1, hW1⟩ : ∃ z, w.alloc (.cells #[.pointer (some ⟨b, 0, none⟩)] 67) = z := ⟨_, rfl⟩
  have hbp : b < p := by rw [← hp]; exact h.lt
  have HI : Hid (Kp w W1 ∧ Rd s b B k c rv dv W1 ∧ W1.cell? ⟨p, 0, none⟩ = some (.pointer (some ⟨b, 0, none⟩))) := by
    rw [← hW1, ← hp]
    exact ⟨kp_alloc _ _, h.kp (kp_alloc _ _), by rw [cell_at (alloc_new w _)]; rfl⟩
  have hb0 : byteAt (bA c.name) 0 = g.toNat := by rw [hn]; rfl
  have hsz : 0 < (bA c.name).size := by rw [hn]; show 0 < (g :: t).toArray.size; simp
  have HC : Hid (∀ q, Calls Tryz.prog 66 #[.pointer (some ⟨b, 0, none⟩), .func (.func 82) #[] #[.pointer (some ⟨p, 0, none⟩)]] (W1.drewN q) fun e w' => e = .returned (.string (bA (l.takeWhile fun a => a == g))) ∧ Hid (Fr (On b) W1 w' ∧ Rd s b B (s.size - (l.dropWhile fun a => a == g).length) c rv dv w' ∧ w'.cell? ⟨p, 0, none⟩ = some (.pointer (some ⟨b, 0, none⟩)))) := fun q => by
    have hr := HI.out.2.1.kp (kp_drewN W1 q)
    have hcp := kp_cell (kp_drewN W1 q) HI.out.2.2
    refine (run_shf hcp (hr.cell (i := 1) rfl) hsz hb0 hg hr.pc hs hl).mono ?_
    rintro e w' ⟨rfl, q1, q2⟩
    refine ⟨rfl, (Fr.drewN _ _ q).trans q1, hr.call q1 q2, ?_⟩
    rw [World.cell?_of_block (q1.block p (World.block_lt_of_cell? _ _ hcp) (by unfold On; omega))]
    exact hcp
  obtain ⟨d, hd⟩ : ∃ d, l.takeWhile (fun a => a == g) = d := ⟨_, rfl⟩
  obtain ⟨r, hr⟩ : ∃ r, l.dropWhile (fun a => a == g) = r := ⟨_, rfl⟩
  rw [hd, hr] at HC hap
  simp only [hd, hr] at hout
  rw [hr] at hL2
  have hdl : d.length ≤ 1000000 := by
    have := congrArg List.length hap
    rw [List.length_append] at this
    omega
  obtain ⟨D, hD⟩ : ∃ D, bA d = D := ⟨_, rfl⟩
  obtain ⟨a, ha⟩ : ∃ a, c.name ++ d = a := ⟨_, rfl⟩
  have HA0 : Hid (bA c.name ++ D = bA a ∧ b < p) := ⟨by rw [← hD, ← ha, bA_app], hbp⟩
  have hle : (9223372036854775807 < (bA c.name).size + D.size) = False := by
    have h1 : (bA c.name).size = c.name.length := by show c.name.toArray.size = _; simp
    have h2 : D.size = d.length := by rw [← hD]; show d.toArray.size = _; simp
    rw [h1, h2, hn]
    simp only [List.length_cons]
    rw [eq_iff_iff]
    constructor
    · intro q; omega
    · exact False.elim
  rw [hD] at HC
  rw [ha] at hout
  have HN : Hid (∀ z dv, Rd s b B (s.size - r.length) { c with arg := a } rv dv z → Calls Tryz.prog 51 #[.pointer (some ⟨b, 0, none⟩)] z fun e w' => Aft s b B rv (numberC { c with arg := a } r) z e w') := fun z dv hz => number_o hz hs hL2
  rw [hout]
  have cp := HI.out.2.2
  have c30 : W1.cell? ⟨b, 3, none⟩ = some (.string (bA c.name)) := HI.out.2.1.cell (i := 1) rfl
  have HNM0 : Hid (∀ z k dv, Rd s b B k c rv dv z → z.cell? ⟨b, 3, none⟩ = some (.string (bA c.name))) := fun z k dv hz => hz.cell (i := 1) rfl
  have HNM1 : Hid (∀ z k dv, Rd s b B k { c with arg := a } rv dv z → z.cell? ⟨b, 3, none⟩ = some (.string (bA c.name))) := fun z k dv hz => hz.cell (i := 1) rfl
  obtain ⟨NM, hNM⟩ : ∃ NM, bA c.name = NM := ⟨_, rfl⟩
  rw [hNM] at hle HA0 c30 HNM0 HNM1
  have HA : Hid (NM ++ D = bA a ∧ b < p) := HA0.out
  have c3 := c30
  clear hout hL2 hap hlk hb0 hsz hd hr hdl hD ha hbp h hl hn hNM c30 HA0
  go_enter Tryz.func58, Tryz.ntmps58
  go_upto_region 1 with fail
  refine wp_region_noPanic ?_
  refine wp_region_held_drew (S := fun z => z.cell? ⟨p, 0, none⟩ = some (.pointer (some ⟨b, 0, none⟩)) ∧ z.cell? ⟨b, 3, none⟩ = some (.string NM)) (by kernel_rfl) (⟨kp_cell (kp_drew _) cp, kp_cell (kp_drew _) c3⟩) (fun hHeld => ?_)
  refine takeAt 0 (some 3) ?_ rfl rfl (by kernel_rfl) (by kernel_rfl) (by kernel_rfl) (fun _ _ _ h => h) (Or.inl ⟨by rfl, ?_⟩) hHeld ?_
  rotate_left
  · intro w hSw
    go_simp <;> with_reducible rfl
  try simp only [Act.put, List.setIfInBounds_toArray, List.set_cons_zero, List.set_cons_succ]
  refine takeAt 1 (some 4) ?_ rfl rfl (by kernel_rfl) (by kernel_rfl) (by kernel_rfl) (fun _ _ _ h => h) (Or.inl ⟨by rfl, ?_⟩) hHeld ?_
  rotate_left
  · intro w hSw
    go_simp <;> with_reducible rfl
  try simp only [Act.put, List.setIfInBounds_toArray, List.set_cons_zero, List.set_cons_succ]
  refine takeAt 2 (some 5) ?_ rfl rfl (by kernel_rfl) (by kernel_rfl) (by kernel_rfl) (fun _ _ _ h => h) (Or.inl ⟨by rfl, ?_⟩) hHeld ?_
  rotate_left
  · intro w hSw
    go_simp <;> with_reducible rfl
  try simp only [Act.put, List.setIfInBounds_toArray, List.set_cons_zero, List.set_cons_succ]
  refine takeAt 3 (some 6) ?_ rfl rfl (by kernel_rfl) (by kernel_rfl) (by kernel_rfl) (fun _ _ _ h => h) (Or.inl ⟨by rfl, ?_⟩) hHeld ?_
  rotate_left
  · intro w hSw
    go_simp <;> with_reducible rfl
  try simp only [Act.put, List.setIfInBounds_toArray, List.set_cons_zero, List.set_cons_succ]
  refine takeAt 4 (some 7) ?_ rfl rfl (by kernel_rfl) (by kernel_rfl) (by kernel_rfl) (fun _ _ _ h => h) (Or.inl ⟨by rfl, ?_⟩) hHeld ?_
  rotate_left
  · intro w hSw
    go_simp <;> with_reducible rfl
  try simp only [Act.put, List.setIfInBounds_toArray, List.set_cons_zero, List.set_cons_succ]
  refine takeAt 5 (some 8) ?_ rfl rfl (by kernel_rfl) (by kernel_rfl) (by kernel_rfl) (fun _ _ _ h => h) (Or.inl ⟨by rfl, ?_⟩) hHeld ?_
  rotate_left
  · intro w hSw
    go_simp <;> with_reducible rfl
  try simp only [Act.put, List.setIfInBounds_toArray, List.set_cons_zero, List.set_cons_succ]
  refine takeAt 6 (some 9) ?_ rfl rfl (by kernel_rfl) (by kernel_rfl) (by kernel_rfl) (fun _ _ _ h => h) (Or.inl ⟨by rfl, ?_⟩) hHeld ?_
  rotate_left
  · intro w hSw
    go_simp <;> with_reducible rfl
  try simp only [Act.put, List.setIfInBounds_toArray, List.set_cons_zero, List.set_cons_succ]
  refine takeAt 7 (some 10) ?_ rfl rfl (by kernel_rfl) (by kernel_rfl) (by kernel_rfl) (fun _ _ _ h => h) (Or.inl ⟨by rfl, ?_⟩) hHeld ?_
  rotate_left
  · intro w hSw
    go_simp <;> with_reducible rfl
  try simp only [Act.put, List.setIfInBounds_toArray, List.set_cons_zero, List.set_cons_succ]
  refine takeAt 8 (some 11) ?_ rfl rfl (by kernel_rfl) (by kernel_rfl) (by kernel_rfl) (fun _ _ _ h => h) (Or.inl ⟨by rfl, ?_⟩) hHeld ?_
  rotate_left
  · intro w hSw
    go_simp <;> with_reducible rfl
  try simp only [Act.put, List.setIfInBounds_toArray, List.set_cons_zero, List.set_cons_succ]
  refine takeAt 9 (some 12) ?_ rfl rfl (by kernel_rfl) (by kernel_rfl) (by kernel_rfl) (fun _ _ _ h => h) (Or.inl ⟨by rfl, ?_⟩) hHeld ?_
  rotate_left
  · intro w hSw
    go_simp <;> with_reducible rfl
  try simp only [Act.put, List.setIfInBounds_toArray, List.set_cons_zero, List.set_cons_succ]
  refine wpAnyH_ready (rs := [10]) (by kernel_rfl) (by simp) ?_
  refine AllReadyH.cons rfl (fun K hK => ?_) AllReadyH.nil
  refine call_stepV 13 66 (vals := #[.pointer (some ⟨b, 0, none⟩), .func (.func 82) #[] #[.pointer (some ⟨p, 0, none⟩)]]) rfl rfl rfl (by simp [Act.eval]) Tryz.func66 (by kernel_rfl) (by kernel_rfl) ?_
  refine Calls.mono (HC.out 1) ?_
  rintro e w2 ⟨rfl, HX⟩
  refine ⟨_, rfl, ?_⟩
  refine hK.out _ _ ⟨HX.out.2.2, HNM0.out _ _ _ HX.out.2.1⟩ (fun hHeld => ?_)
  clear hK K
  try simp only [Act.put, List.setIfInBounds_toArray, List.set_cons_zero, List.set_cons_succ]
  refine takeAt 11 (some 14) ?_ rfl rfl (by kernel_rfl) (by kernel_rfl) (by kernel_rfl) (fun _ _ _ h => h) (Or.inl ⟨by rfl, ?_⟩) hHeld ?_
  rotate_left
  · intro w hSw
    go_simp <;> with_reducible rfl
  try simp only [Act.put, List.setIfInBounds_toArray, List.set_cons_zero, List.set_cons_succ]
  refine takeAt 12 (some 15) ?_ rfl rfl (by kernel_rfl) (by kernel_rfl) (by kernel_rfl) (fun _ _ _ h => h) (Or.inl ⟨by rfl, ?_⟩) hHeld ?_
  rotate_left
  · intro w hSw
    go_simp <;> with_reducible rfl
  try simp only [Act.put, List.setIfInBounds_toArray, List.set_cons_zero, List.set_cons_succ]
  refine takeAt 13 (some 16) ?_ rfl rfl (by kernel_rfl) (by kernel_rfl) (by kernel_rfl) (fun _ _ _ h => h) (Or.inl ⟨by rfl, ?_⟩) hHeld ?_
  rotate_left
  · intro w hSw
    go_simp <;> with_reducible rfl
  try simp only [Act.put, List.setIfInBounds_toArray, List.set_cons_zero, List.set_cons_succ]
  refine takeAt 14 (some 17) ?_ rfl rfl (by kernel_rfl) (by kernel_rfl) (by kernel_rfl) (fun _ _ _ h => h) (Or.inl ⟨by rfl, ?_⟩) hHeld ?_
  rotate_left
  · intro w hSw
    go_simp <;> with_reducible rfl
  try simp only [Act.put, List.setIfInBounds_toArray, List.set_cons_zero, List.set_cons_succ]
  have c11 : w2.cell? ⟨b, 11, none⟩ = some (.string (bA c.arg)) := HX.out.2.1.cell (i := 9) rfl
  have f11 : w2.frozen? ⟨b, 11, none⟩ = false := HX.out.2.1.fz 11
  have HW : Hid (Fr (On b) W1 (w2.setCell ⟨b, 11, none⟩ (.string (NM ++ D))) ∧ Rd s b B (s.size - r.length) { c with arg := a } rv dv (w2.setCell ⟨b, 11, none⟩ (.string (NM ++ D))) ∧ (w2.setCell ⟨b, 11, none⟩ (.string (NM ++ D))).cell? ⟨p, 0, none⟩ = some (.pointer (some ⟨b, 0, none⟩))) := by
    refine ⟨HX.out.1.trans (fr_set _ _ _ _), ?_, ?_⟩
    · exact HX.out.2.1.set 9 (.string (NM ++ D)) (by rw [HA.out.1]; rfl) rfl rfl
    · rw [World.cell?_of_block ((fr_set b 11 (.string (NM ++ D)) w2).block p (World.block_lt_of_cell? _ _ HX.out.2.2) (by unfold On; have := HA.out.2; omega))]; exact HX.out.2.2
  refine wpAnyH_ready (rs := [15]) (by kernel_rfl) (by simp) ?_
  refine AllReadyH.cons rfl (fun K hK => ?_) AllReadyH.nil
  go_simp
  refine hK.out _ _ (⟨HW.out.2.2, HNM1.out _ _ _ HW.out.2.1⟩) (fun hHeld => ?_)
  clear hK K
  try simp only [Act.put, List.setIfInBounds_toArray, List.set_cons_zero, List.set_cons_succ]
  refine wpAnyH_done (by kernel_rfl) ?_ _
  refine NoPanic.normal ?_
  have cp2 := HW.out.2.2
  go_wp2_with fail
  refine Calls.mono (HN.out _ _ HW.out.2.1) ?_
  intro e w5 q
  have HY : Hid (Aft s b B rv (numberC { c with arg := a } r) w e w5) := (q.tr HW.out.1).tr (Fr.of_below HI.out.1)
  clear HN HW q
  obtain rfl := HY.out.1
  go_wp2_with fail
  go_ret
  exact ⟨rfl, HY.out.2.1, HY.out.2.2⟩
end
end Go.Proofs.YtfgapmfjfienhaaGreatDoor
