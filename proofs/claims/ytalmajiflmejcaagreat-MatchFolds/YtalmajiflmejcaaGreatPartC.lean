/- Texts that the proof of the law stands on: Ft3, Fi0, Fc1, Fb1, Fp1, Fl1, Fy0. -/
import Derived.Test.YtalmajiflmejcaaGreatPartB
import Derived.Lib.Slices
import Derived.Deep.CutRange
import Derived.Test.YtalmajiflmejcaaGreatPartA
/- The document's reader: name. -/
namespace Go.Proofs.YtalmajiflmejcaaGreat
open Go.ChangeShapes Go.WideShapes Go.ChangeAt Go.RowKit
set_option linter.unusedVariables false
set_option linter.unusedSimpArgs false
theorem rowSet : ∃ d, Tryz.prog.underlying 108 = some d ∧ d.isRow = true := ⟨_, Tryz.underlying108, rfl⟩
theorem sizeSet : (Tryz.prog.info? 108).map (·.size) = some 4 := by kernel_rfl
def S4.cells (q : S4) : List Value := [.int .u64 q.a, .int .u64 q.b, .int .u64 q.c, .int .u64 q.d]
theorem oneSet (q : S4) : ∀ v ∈ q.cells, v.oneCell' = true := by
  intro u hu
  simp only [S4.cells, List.mem_cons, List.not_mem_nil, or_false] at hu
  rcases hu with rfl | rfl | rfl | rfl <;> rfl
def S4.val (q : S4) : Value := .agg #[.int .u64 q.a, .int .u64 q.b, .int .u64 q.c, .int .u64 q.d]
theorem smlL_le {s : ByteArray} : ∀ {f k : Nat}, k ≤ smlL s f k ∧ (k ≤ s.size → smlL s f k ≤ s.size) := by
  intro f
  induction f with
  | zero => intro k; exact ⟨Nat.le_refl _, id⟩
  | succ f ih =>
    intro k
    rw [smlL]
    split
    · rename_i h
      obtain ⟨h1, h2⟩ := @ih (k + 1)
      exact ⟨by omega, fun _ => h2 (by omega)⟩
    · exact ⟨Nat.le_refl _, id⟩
theorem kp_on {w w1 w2 : World} {n : Nat} (k : Kp w w1) (f : Fr (On n) w1 w2) (hn : w.heap.size ≤ n) : Kp w w2 :=
  ⟨f.os.trans k.os, f.tape.trans k.tape, f.output.trans k.output, Nat.le_trans k.size f.size, fun j hj => by
    rw [f.block j (Nat.lt_of_lt_of_le hj k.size) (by unfold On; omega)]; exact k.block j hj⟩
section
variable {rb : Nat} {s : ByteArray} {at_ : Nat} {w : World}
set_option maxHeartbeats 4000000 in
set_option maxRecDepth 100000 in
theorem fname_no1 (c0 : w.cell? ⟨rb, 0, none⟩ = some (.string s)) (hrb : rb < w.heap.size) (hs : s.size ≤ 400) (ha : at_ < s.size) (hq : s.size ≤ at_ + 1 ∨ byteAt s at_ ≠ 91 ∨ byteAt s (at_ + 1) ≠ 58) :
    Calls Tryz.prog 190 #[.pointer (some ⟨rb, 0, none⟩), .int .i64 at_] w fun e w' => e = .returned (.tuple #[zeroS.val, .int .i64 0, .bool false]) ∧ Kp w w' := by
  have hB := byteAt_eq s at_ ha
  obtain ⟨C, hC⟩ : ∃ C, (s[at_]).toNat = C := ⟨_, rfl⟩
  rw [hB, hC] at hq
  obtain ⟨A1, hA1⟩ : ∃ A1, at_ + 1 = A1 := ⟨_, rfl⟩
  have i1 : (at_ : Int) + 1 = (A1 : Int) := by omega
  have l1 : A1 ≤ 401 := by omega
  rw [hA1] at hq
  obtain ⟨dT, hT1, hT2⟩ := rowSet
  have HS : Hid (Lc 108 w.heap.size zeroS.cells (w.alloc (.cells #[.int .u64 0, .int .u64 0, .int .u64 0, .int .u64 0] 108)) ∧ Kp w (w.alloc (.cells #[.int .u64 0, .int .u64 0, .int .u64 0, .int .u64 0] 108))) := ⟨Lc.new w _ _, kp_alloc _ _⟩
  have e0 := kp_cell HS.out.2 c0
  clear hB
  by_cases h1 : s.size ≤ A1
  · have k1 : decide ((s.size : Int) ≤ (A1 : Int)) = true := decide_eq_true (by omega)
    have k1' : decide (s.size ≤ A1) = true := decide_eq_true h1
    clear hq hA1 h1
    go_enter Tryz.func190, Tryz.ntmps190
    go_wp2_with (refine wpList_store_box HS.out.1 0 zeroS.cells rfl 108 (.tmp 4) (.tmp 37) rfl rfl rfl (Nat.le_refl 4) sizeSet (oneSet _) rfl ?_; intro wz lz fz sz; have HZ : Hid (Lc 108 w.heap.size zeroS.cells wz ∧ Kp w wz) := ⟨lz, kp_on HS.out.2 fz (Nat.le_refl _)⟩; clear lz fz sz)
    exact bodyPost_ret (results_box3 rfl rfl HZ.out.1 hT1 hT2 sizeSet) rfl ⟨rfl, HZ.out.2⟩
  have k1 : decide ((s.size : Int) ≤ (A1 : Int)) = false := decide_eq_false (by omega)
  have k1' : decide (s.size ≤ A1) = false := decide_eq_false h1
  have hB1 := byteAt_eq s A1 (by omega)
  have hlt : A1 < s.size := by omega
  obtain ⟨D, hD⟩ : ∃ D, (s[A1]).toNat = D := ⟨_, rfl⟩
  rw [hB1, hD] at hq
  by_cases h2 : C = 91
  · have k2 : ((C : Int) != 91) = false := by simp; omega
    have k3 : ((D : Int) != 58) = true := by simp; omega
    clear hq hA1 h1 hB1 h2
    go_enter Tryz.func190, Tryz.ntmps190
    go_wp2_with (refine wpList_store_box HS.out.1 0 zeroS.cells rfl 108 (.tmp 4) (.tmp 37) rfl rfl rfl (Nat.le_refl 4) sizeSet (oneSet _) rfl ?_; intro wz lz fz sz; have HZ : Hid (Lc 108 w.heap.size zeroS.cells wz ∧ Kp w wz) := ⟨lz, kp_on HS.out.2 fz (Nat.le_refl _)⟩; clear lz fz sz)
    exact bodyPost_ret (results_box3 rfl rfl HZ.out.1 hT1 hT2 sizeSet) rfl ⟨rfl, HZ.out.2⟩
  · have k2 : ((C : Int) != 91) = true := by simp; omega
    clear hq hA1 h1 hB1 h2
    go_enter Tryz.func190, Tryz.ntmps190
    go_wp2_with (refine wpList_store_box HS.out.1 0 zeroS.cells rfl 108 (.tmp 4) (.tmp 37) rfl rfl rfl (Nat.le_refl 4) sizeSet (oneSet _) rfl ?_; intro wz lz fz sz; have HZ : Hid (Lc 108 w.heap.size zeroS.cells wz ∧ Kp w wz) := ⟨lz, kp_on HS.out.2 fz (Nat.le_refl _)⟩; clear lz fz sz)
    exact bodyPost_ret (results_box3 rfl rfl HZ.out.1 hT1 hT2 sizeSet) rfl ⟨rfl, HZ.out.2⟩
theorem is_l' (c : Int) (x : World) : Calls Tryz.prog 123 #[.int .u8 108, .int .u8 c] x fun e w' => e = .returned (.bool (isB 108 c)) ∧ x = w' := (rIs_any 108 c x).mono fun e w' h => ⟨h.1, h.2.symm⟩
theorem sub_eq (s : ByteArray) (a b : Nat) : (s.extract a b).toList = sub s a b := by
  unfold sub
  rw [Lib.extract_toList]
set_option maxHeartbeats 8000000 in
set_option maxRecDepth 100000 in
theorem fname_more (c0 : w.cell? ⟨rb, 0, none⟩ = some (.string s)) (hrb : rb < w.heap.size) (hs : s.size ≤ 400) (ha : at_ + 1 < s.size) (h1 : byteAt s at_ = 91) (h2 : byteAt s (at_ + 1) = 58) (K : Nat) (hK : smlL s s.size (at_ + 2) = K) (q : S4) (b : Bool) (en : Nat)
    (hR : (if s.size ≤ K + 1 ∨ byteAt s K ≠ 58 ∨ byteAt s (K + 1) ≠ 93 then (zeroS, 0, false) else (foldS (nmB (sub s (at_ + 2) K)) 256, K + 2, nmK (sub s (at_ + 2) K))) = (q, en, b)) :
    Calls Tryz.prog 190 #[.pointer (some ⟨rb, 0, none⟩), .int .i64 at_] w fun e w' => e = .returned (.tuple #[q.val, .int .i64 en, .bool b]) ∧ Kp w w' := by
  have hB := byteAt_eq s at_ (by omega)
  have e1 : (s[at_]).toNat = 91 := by rw [← hB]; exact h1
  obtain ⟨A1, hA1⟩ : ∃ A1, at_ + 1 = A1 := ⟨_, rfl⟩
  obtain ⟨A2, hA2⟩ : ∃ A2, at_ + 2 = A2 := ⟨_, rfl⟩
  have i1 : (at_ : Int) + 1 = (A1 : Int) := by omega
  have i2 : (at_ : Int) + 2 = (A2 : Int) := by omega
  rw [hA1] at h2 ha
  rw [hA2] at hK hR
  have hB1 := byteAt_eq s A1 ha
  have e2 : (s[A1]).toNat = 58 := by rw [← hB1]; exact h2
  have k1 : decide ((s.size : Int) ≤ (A1 : Int)) = false := decide_eq_false (by omega)
  have k1' : decide (s.size ≤ A1) = false := decide_eq_false (by omega)
  have l1 : A1 ≤ 401 := by omega
  have l2 : A2 ≤ s.size := by omega
  have hat : at_ < s.size := by omega
  obtain ⟨dT, hT1, hT2⟩ := rowSet
  have HS : Hid (Lc 108 w.heap.size zeroS.cells (w.alloc (.cells #[.int .u64 0, .int .u64 0, .int .u64 0, .int .u64 0] 108)) ∧ Kp w (w.alloc (.cells #[.int .u64 0, .int .u64 0, .int .u64 0, .int .u64 0] 108))) := ⟨Lc.new w _ _, kp_alloc _ _⟩
  have e0 := kp_cell HS.out.2 c0
  have HK : Hid (smlL s s.size A2 = K ∧ A2 ≤ K ∧ K ≤ s.size) := ⟨hK, by rw [← hK]; exact smlL_le.1, by rw [← hK]; exact smlL_le.2 l2⟩
  have HR : Hid _ := hR
  clear hB hB1 h1 h2 hA1 hK hR
  go_enter Tryz.func190, Tryz.ntmps190
  go_wp2_with fail
  obtain ⟨W1, hW1⟩ : ∃ W1, w.alloc (.cells #[.int .u64 0, .int .u64 0, .int .u64 0, .int .u64 0] 108) = W1 := ⟨_, rfl⟩
  rw [hW1] at HS e0 ⊢
  clear hW1
  go_loopw [7] (fun v7 wr => ∃ (f k : Nat), v7 = .int .i64 k ∧ wr = W1 ∧ A2 ≤ k ∧ k ≤ s.size ∧ f + k = s.size + A2 ∧ smlL s f k = K) (fun v7 _ => s.size - (intOf v7).toNat)
  case atStart => exact ⟨s.size, A2, rfl, rfl, Nat.le_refl _, l2, rfl, HK.out.1⟩
  case round =>
    obtain ⟨f, k, rfl, rfl, g1, g2, g3, g4⟩ := hrel
    obtain ⟨f, rfl⟩ : ∃ f', f = f' + 1 := ⟨f - 1, by omega⟩
    rw [smlL] at g4
    by_cases hgo : k < s.size ∧ isB 108 (byteAt s k) = true
    · rw [if_pos hgo] at g4
      obtain ⟨p1, p2⟩ := hgo
      have m1 : decide ((k : Int) < (s.size : Int)) = true := decide_eq_true (by omega)
      have m1' : decide (k < s.size) = true := decide_eq_true p1
      rw [byteAt_eq s k p1] at p2
      obtain ⟨C, hC⟩ : ∃ C, (s[k]).toNat = C := ⟨_, rfl⟩
      rw [hC] at p2
      have HI : Hid (∀ x, Calls Tryz.prog 123 #[.int .u8 108, .int .u8 C] x fun e w' => e = .returned (.bool true) ∧ x = w') := fun x => by have := is_l' (C : Int) x; rw [p2] at this; exact this
      have HN : Hid (smlL s f (k + 1) = K ∧ f + (k + 1) = s.size + A2) := ⟨g4, by omega⟩
      clear g3 g4 p2 hA2
      go_wp2_with (go_at_call 123; refine Calls.mono (HI.out _) ?_; rintro e _ ⟨rfl, rfl⟩)
      go_roundw
      case rel => exact ⟨f, k + 1, by go_num, by trivial, by omega, by omega, HN.out.2, HN.out.1⟩
      case measure => simp [intOf]; omega
    · rw [if_neg hgo] at g4
      subst g4
      have HG : Hid (∀ h : k < s.size, isB 108 ((s[k]).toNat : Int) = false) := fun h => Bool.eq_false_iff.2 fun e => hgo ⟨h, by rw [byteAt_eq s k h]; exact e⟩
      obtain ⟨K1, hK1⟩ : ∃ K1, k + 1 = K1 := ⟨_, rfl⟩
      have i3 : (k : Int) + 1 = (K1 : Int) := by omega
      obtain ⟨K2, hK2⟩ : ∃ K2, k + 2 = K2 := ⟨_, rfl⟩
      have i4 : (k : Int) + 2 = (K2 : Int) := by omega
      have hR := HR.out
      rw [hK1, hK2] at hR
      clear g3 hgo HK HR hA2
      by_cases p1 : k < s.size
      · have m1 : decide ((k : Int) < (s.size : Int)) = true := decide_eq_true (by omega)
        have m1' : decide (k < s.size) = true := decide_eq_true p1
        obtain ⟨C, hC⟩ : ∃ C, (s[k]).toNat = C := ⟨_, rfl⟩
        have hCb : byteAt s k = C := by rw [byteAt_eq s k p1]; exact hC
        have p2 := HG.out p1
        rw [hC] at p2
        have HI : Hid (∀ x, Calls Tryz.prog 123 #[.int .u8 108, .int .u8 C] x fun e w' => e = .returned (.bool false) ∧ x = w') := fun x => by have := is_l' (C : Int) x; rw [p2] at this; exact this
        rw [hCb] at hR
        clear p2 HG hCb
        by_cases p3 : s.size ≤ K1
        · rw [if_pos (.inl p3)] at hR
          injection hR with r1 hR
          injection hR with r2 r3
          subst r1; subst r2; subst r3
          have m2 : decide ((s.size : Int) ≤ (K1 : Int)) = true := decide_eq_true (by omega)
          have m2' : decide (s.size ≤ K1) = true := decide_eq_true p3
          clear p3 hK1 hK2
          go_wp2_with (first | (go_at_call 123; refine Calls.mono (HI.out _) ?_; rintro e _ ⟨rfl, rfl⟩) | (refine wpList_store_box HS.out.1 0 zeroS.cells rfl 108 (.tmp 4) (.tmp 85) rfl rfl rfl (Nat.le_refl 4) sizeSet (oneSet _) rfl ?_; intro wz lz fz sz; have HZ : Hid (Lc 108 w.heap.size zeroS.cells wz ∧ Kp w wz) := ⟨lz, kp_on HS.out.2 fz (Nat.le_refl _)⟩; clear lz fz sz))
          exact bodyPost_ret (results_box3 rfl rfl HZ.out.1 hT1 hT2 sizeSet) rfl ⟨rfl, HZ.out.2⟩
        have m2 : decide ((s.size : Int) ≤ (K1 : Int)) = false := decide_eq_false (by omega)
        have m2' : decide (s.size ≤ K1) = false := decide_eq_false p3
        have hlt : K1 < s.size := by omega
        obtain ⟨D, hD⟩ : ∃ D, (s[K1]).toNat = D := ⟨_, rfl⟩
        have hDb : byteAt s K1 = D := by rw [byteAt_eq s K1 hlt]; exact hD
        rw [hDb] at hR
        clear hDb
        by_cases p4 : C = 58
        · by_cases p5 : D = 93
          · rw [if_neg (by omega)] at hR
            injection hR with r1 hR
            injection hR with r2 r3
            have m3 : ((C : Int) != 58) = false := by simp; omega
            have m4 : ((D : Int) != 93) = false := by simp; omega
            have HNm : Hid (∀ x, Calls Tryz.prog 207 #[.string (s.extract A2 k)] x fun e w' => e = .returned (.tuple #[.agg #[.int .u64 q.a, .int .u64 q.b, .int .u64 q.c, .int .u64 q.d], .bool b]) ∧ Kp x w') := fun x => by
              have := rNamed_any (s.extract A2 k) x
              rw [sub_eq, r1, r3] at this
              exact this
            have HE : Hid (K2 = en) := r2
            clear r1 r2 r3 p3 p4 p5 hK1 hK2
            go_wp2_with (first | (go_at_call 123; refine Calls.mono (HI.out _) ?_; rintro e _ ⟨rfl, rfl⟩) | (go_at_call 207; refine Calls.mono (HNm.out _) ?_; rintro e w5 ⟨rfl, k5⟩; have H5 : Hid (Lc 108 w.heap.size zeroS.cells (w5.alloc (.cells #[.int .u64 q.a, .int .u64 q.b, .int .u64 q.c, .int .u64 q.d] 108)) ∧ Kp w (w5.alloc (.cells #[.int .u64 q.a, .int .u64 q.b, .int .u64 q.c, .int .u64 q.d] 108))) := ⟨(HS.out.1.kp k5).kp (kp_alloc _ _), kp_trans (kp_trans HS.out.2 k5) (kp_alloc _ _)⟩; clear k5) | (refine wpList_store_box H5.out.1 0 q.cells rfl 108 (.tmp 4) (.tmp 98) rfl rfl rfl (Nat.le_refl 4) sizeSet (oneSet _) rfl ?_; intro wz lz fz sz; have HZ : Hid (Lc 108 w.heap.size q.cells wz ∧ Kp w wz) := ⟨lz, kp_on H5.out.2 fz (Nat.le_refl _)⟩; clear lz fz sz))
            exact bodyPost_ret (results_box3 rfl rfl HZ.out.1 hT1 hT2 sizeSet) rfl ⟨by rw [← HE.out]; rfl, HZ.out.2⟩
          · rw [if_pos (.inr (.inr p5))] at hR
            injection hR with r1 hR
            injection hR with r2 r3
            subst r1; subst r2; subst r3
            have m3 : ((C : Int) != 58) = false := by simp; omega
            have m4 : ((D : Int) != 93) = true := by simp; omega
            clear p3 p4 p5 hK1 hK2
            go_wp2_with (first | (go_at_call 123; refine Calls.mono (HI.out _) ?_; rintro e _ ⟨rfl, rfl⟩) | (refine wpList_store_box HS.out.1 0 zeroS.cells rfl 108 (.tmp 4) (.tmp 85) rfl rfl rfl (Nat.le_refl 4) sizeSet (oneSet _) rfl ?_; intro wz lz fz sz; have HZ : Hid (Lc 108 w.heap.size zeroS.cells wz ∧ Kp w wz) := ⟨lz, kp_on HS.out.2 fz (Nat.le_refl _)⟩; clear lz fz sz))
            exact bodyPost_ret (results_box3 rfl rfl HZ.out.1 hT1 hT2 sizeSet) rfl ⟨rfl, HZ.out.2⟩
        · rw [if_pos (.inr (.inl p4))] at hR
          injection hR with r1 hR
          injection hR with r2 r3
          subst r1; subst r2; subst r3
          have m3 : ((C : Int) != 58) = true := by simp; omega
          clear p3 p4 hK1 hK2
          go_wp2_with (first | (go_at_call 123; refine Calls.mono (HI.out _) ?_; rintro e _ ⟨rfl, rfl⟩) | (refine wpList_store_box HS.out.1 0 zeroS.cells rfl 108 (.tmp 4) (.tmp 85) rfl rfl rfl (Nat.le_refl 4) sizeSet (oneSet _) rfl ?_; intro wz lz fz sz; have HZ : Hid (Lc 108 w.heap.size zeroS.cells wz ∧ Kp w wz) := ⟨lz, kp_on HS.out.2 fz (Nat.le_refl _)⟩; clear lz fz sz))
          exact bodyPost_ret (results_box3 rfl rfl HZ.out.1 hT1 hT2 sizeSet) rfl ⟨rfl, HZ.out.2⟩
      · have m1 : decide ((k : Int) < (s.size : Int)) = false := decide_eq_false (by omega)
        have m1' : decide (k < s.size) = false := decide_eq_false p1
        have p3 : s.size ≤ K1 := by omega
        rw [if_pos (.inl p3)] at hR
        injection hR with r1 hR
        injection hR with r2 r3
        subst r1; subst r2; subst r3
        have m2 : decide ((s.size : Int) ≤ (K1 : Int)) = true := decide_eq_true (by omega)
        have m2' : decide (s.size ≤ K1) = true := decide_eq_true p3
        clear p3 hK1 hK2 HG
        go_wp2_with (refine wpList_store_box HS.out.1 0 zeroS.cells rfl 108 (.tmp 4) (.tmp 85) rfl rfl rfl (Nat.le_refl 4) sizeSet (oneSet _) rfl ?_; intro wz lz fz sz; have HZ : Hid (Lc 108 w.heap.size zeroS.cells wz ∧ Kp w wz) := ⟨lz, kp_on HS.out.2 fz (Nat.le_refl _)⟩; clear lz fz sz)
        exact bodyPost_ret (results_box3 rfl rfl HZ.out.1 hT1 hT2 sizeSet) rfl ⟨rfl, HZ.out.2⟩
theorem fname_any (c0 : w.cell? ⟨rb, 0, none⟩ = some (.string s)) (hrb : rb < w.heap.size) (hs : s.size ≤ 400) (ha : at_ < s.size) :
    Calls Tryz.prog 190 #[.pointer (some ⟨rb, 0, none⟩), .int .i64 at_] w fun e w' => e = .returned (.tuple #[(nameF s at_).1.val, .int .i64 (nameF s at_).2.1, .bool (nameF s at_).2.2]) ∧ Kp w w' := by
  by_cases h : s.size ≤ at_ + 1 ∨ byteAt s at_ ≠ 91 ∨ byteAt s (at_ + 1) ≠ 58
  · have e : nameF s at_ = (zeroS, 0, false) := if_pos h
    rw [e]; exact fname_no1 c0 hrb hs ha h
  · have h' := h
    simp only [not_or, Nat.not_le, ne_eq, Decidable.not_not] at h
    have e : nameF s at_ = (if s.size ≤ smlL s s.size (at_ + 2) + 1 ∨ byteAt s (smlL s s.size (at_ + 2)) ≠ 58 ∨ byteAt s (smlL s s.size (at_ + 2) + 1) ≠ 93 then (zeroS, 0, false) else (foldS (nmB (sub s (at_ + 2) (smlL s s.size (at_ + 2)))) 256, smlL s s.size (at_ + 2) + 2, nmK (sub s (at_ + 2) (smlL s s.size (at_ + 2))))) := if_neg h'
    obtain ⟨⟨q, en, b⟩, hq⟩ : ∃ F, nameF s at_ = F := ⟨_, rfl⟩
    rw [hq]
    exact fname_more c0 hrb hs h.1 h.2.1 h.2.2 _ rfl q b en (by rw [← e]; exact hq)
end
end Go.Proofs.YtalmajiflmejcaaGreat
/- What is kept while the document's reader goes on: where it is, what it has. -/
namespace Go.Proofs.YtalmajiflmejcaaGreat
set_option linter.unusedVariables false
set_option linter.unusedSimpArgs false
section
variable {s last : ByteArray} {r : FS} {b : Bs}
theorem wrongF_k (e a : Nat) (r : FS) : (wrongF e a r).k = r.k := by unfold wrongF; split <;> rfl
theorem wrongF_err {e : Nat} (he : e ≠ 0) (a : Nat) (r : FS) : (wrongF e a r).err ≠ 0 := by
  unfold wrongF
  split
  · exact he
  · assumption
theorem nodeF_k (d : Nd) (r : FS) : (nodeF d r).2.k = r.k := by unfold nodeF; split <;> rfl
theorem nodeF_err (d : Nd) (r : FS) : (nodeF d r).2.err = r.err := by unfold nodeF; split <;> rfl
theorem nodeF_g (d : Nd) (r : FS) : (nodeF d r).2.g = r.g := by unfold nodeF; split <;> rfl
theorem nodeF_dn (d : Nd) (r : FS) : (nodeF d r).2.dn = r.dn := by unfold nodeF; split <;> rfl
theorem rowF_k (op : Nat) (ks : List Nat) (r : FS) : (rowF op ks r).2.k = r.k := by
  unfold rowF
  split
  · exact nodeF_k _ _
  · rfl
  · exact nodeF_k _ _
theorem rowF_err (op : Nat) (ks : List Nat) (r : FS) : (rowF op ks r).2.err = r.err := by
  unfold rowF
  split
  · exact nodeF_err _ _
  · rfl
  · exact nodeF_err _ _
theorem rowF_g (op : Nat) (ks : List Nat) (r : FS) : (rowF op ks r).2.g = r.g := by
  unfold rowF
  split
  · exact nodeF_g _ _
  · rfl
  · exact nodeF_g _ _
theorem lastL_k : ∀ (l : List Nat) (r : FS) (ks : List Nat), (lastL l r ks).1.k = r.k ∧ (lastL l r ks).1.err = r.err ∧ (lastL l r ks).1.g = r.g
  | [], r, ks => ⟨rfl, rfl, rfl⟩
  | c :: cs, r, ks => by
    rw [lastL]
    obtain ⟨h1, h2, h3⟩ := lastL_k cs (nodeF { op := 2, c := c } r).2 (ks ++ [(nodeF { op := 2, c := c } r).1])
    rw [h1, h2, h3, nodeF_k, nodeF_err, nodeF_g]
    exact ⟨rfl, rfl, rfl⟩
theorem lastF_k (last : ByteArray) (r : FS) : (lastF last r).2.k = r.k ∧ (lastF last r).2.err = r.err ∧ (lastF last r).2.g = r.g := by
  unfold lastF
  rw [rowF_k, rowF_err, rowF_g]
  exact lastL_k _ _ _
theorem itemF_le (s : ByteArray) (a : Nat) : a < (itemF s a).2 ∧ (a < s.size → (itemF s a).2 ≤ s.size) ∧ (itemF s a).1 < 256 := by
  have hb := byteAt_lt s a
  have hb1 := byteAt_lt s (a + 1)
  have hl : (letrF (byteAt s (a + 1))).1 < 256 := by
    unfold letrF
    repeat' split
    all_goals simp
  unfold itemF
  split
  · rename_i h
    split
    · exact ⟨by simp, fun _ => by simp; omega, hl⟩
    · split
      · exact ⟨by simp, fun _ => by simp; omega, by simp⟩
      · split
        · exact ⟨by simp, fun _ => by simp; omega, hb1⟩
        · exact ⟨by simp, fun _ => by simp; omega, hb⟩
  · exact ⟨by simp, fun _ => by simp; omega, hb⟩
theorem spF_le (s : ByteArray) (a : Nat) : a < (spF s a).2.2 ∧ (a < s.size → (spF s a).2.2 ≤ s.size) ∧ (spF s a).1 < 256 ∧ (spF s a).2.1 < 256 := by
  obtain ⟨h1, h2, h3⟩ := itemF_le s a
  obtain ⟨k1, k2, k3⟩ := itemF_le s ((itemF s a).2 + 1)
  unfold spF
  split
  · rename_i h
    exact ⟨by simp; omega, fun _ => by simp; exact k2 h.1, h3, k3⟩
  · exact ⟨h1, h2, h3, h3⟩
theorem smlL_le2 {s : ByteArray} : ∀ {f k : Nat}, k ≤ smlL s f k ∧ (k ≤ s.size → smlL s f k ≤ s.size) := by
  intro f
  induction f with
  | zero => intro k; exact ⟨Nat.le_refl _, id⟩
  | succ f ih =>
    intro k
    rw [smlL]
    split
    · rename_i h
      obtain ⟨h1, h2⟩ := @ih (k + 1)
      exact ⟨by omega, fun _ => h2 (by omega)⟩
    · exact ⟨Nat.le_refl _, id⟩
theorem nameF_le (s : ByteArray) (a : Nat) (h : (nameF s a).2.2 = true) : a < (nameF s a).2.1 ∧ (nameF s a).2.1 ≤ s.size := by
  unfold nameF at h ⊢
  split at h
  · cases h
  · split at h
    · cases h
    · rename_i h1 h2
      rw [if_neg h1, if_neg h2]
      have := @smlL_le2 s s.size (a + 2)
      simp only [not_or] at h2
      exact ⟨by simp; omega, by simp; omega⟩
theorem nameF_ok (s : ByteArray) (a : Nat) : (nameF s a).1.ok := by
  unfold nameF
  split
  · exact ok_zero
  · split
    · exact ok_zero
    · exact ok_fold _ _ (by decide)
theorem clL_le : ∀ {f a : Nat} {q q' : S4} {fl fl' fi : Bool} {en : Nat}, clL s f a q fl fi = some (q', fl', en) → a < en ∧ en ≤ s.size := by
  intro f
  induction f with
  | zero => intro a q q' fl fl' fi en h; cases h
  | succ f ih =>
    intro a q q' fl fl' fi en h
    rw [clL] at h
    split at h
    · rename_i ha
      split at h
      · simp only [Option.some.injEq, Prod.mk.injEq] at h
        obtain ⟨_, _, rfl⟩ := h
        exact ⟨by omega, by omega⟩
      · split at h
        · rename_i hn
          have := nameF_le s a hn
          have := ih h
          exact ⟨by omega, this.2⟩
        · have := spF_le s a
          have := ih h
          exact ⟨by omega, this.2⟩
    · cases h
theorem clF_k (s : ByteArray) (o : Nat) (r : FS) : (clF s o r).2.2.k = r.k ∧ (clF s o r).2.2.g = r.g ∧ (0 < (clF s o r).2.1 → o + 1 < (clF s o r).2.1 ∧ (clF s o r).2.1 ≤ s.size) := by
  unfold clF
  split
  · exact ⟨rfl, rfl, fun h => absurd h (Nat.lt_irrefl 0)⟩
  · rename_i q fl en h
    have := clL_le h
    refine ⟨?_, ?_, fun _ => ⟨?_, this.2⟩⟩
    · show (if fl = true then wrongF 30 o r else r).k = r.k
      split
      · exact wrongF_k _ _ _
      · rfl
    · show (if fl = true then wrongF 30 o r else r).g = r.g
      split
      · unfold wrongF; split <;> rfl
      · rfl
    · have h1 := this.1
      show o + 1 < en
      split at h1 <;> omega
theorem brc4_le {lz : Bool} {mn : Nat} {mx : Int} {c : Nat} {x : Nat × Int × Bool × Nat} (h : brc4 s lz mn mx c = some x) : c < x.2.2.2 ∧ x.2.2.2 ≤ s.size ∧ x.1 ≤ 60 ∧ x.2.1 ≤ 60 := by
  unfold brc4 at h
  split at h
  · cases h
  · rename_i q
    simp only [Option.some.injEq] at h
    subst h
    simp only [not_or] at q
    exact ⟨by simp, by simp; omega, by simp; omega, by simp; omega⟩
theorem brc3_le {lz : Bool} {mn : Nat} {mx : Int} {c : Nat} {x : Nat × Int × Bool × Nat} (h : brc3 s lz mn mx c = some x) : c < x.2.2.2 ∧ x.2.2.2 ≤ s.size ∧ x.1 ≤ 60 ∧ x.2.1 ≤ 60 := by
  unfold brc3 at h
  have hn := nrF_le s (c + 1)
  split at h
  · split at h
    · cases h
    · have := brc4_le h
      refine ⟨?_, this.2⟩
      have h1 := this.1
      split at h1 <;> omega
  · have := brc4_le h
    refine ⟨?_, this.2⟩
    have h1 := this.1
    split at h1 <;> omega
theorem brcF_le {a : Nat} {x : Nat × Int × Bool × Nat} (h : brcF s a = some x) : a < x.2.2.2 ∧ x.2.2.2 ≤ s.size ∧ x.1 ≤ 60 ∧ x.2.1 ≤ 60 := by
  have h2 : ∀ {lz : Bool} {c : Nat}, brc2 s lz c = some x → c < x.2.2.2 ∧ x.2.2.2 ≤ s.size ∧ x.1 ≤ 60 ∧ x.2.1 ≤ 60 := by
    intro lz c h
    unfold brc2 at h
    have hn := nrF_le s c
    split at h
    · cases h
    · have := brc3_le h
      exact ⟨by omega, this.2⟩
  unfold brcF at h
  split at h
  · have := h2 h; exact ⟨by omega, this.2⟩
  · exact h2 h
/-- A step forward: an error, or a place further on. -/
def Up (s : ByteArray) (k0 : Nat) (r : FS) : Prop := r.err ≠ 0 ∨ (k0 < r.k ∧ r.k ≤ s.size + 3)
/-- What a branch holds: its length, and that the last piece is there if it may be repeated. -/
def Hb (n : Nat) (b : Bs) : Prop := b.ks.length ≤ n ∧ (b.may = true → b.ks ≠ [])
theorem putF_up {k0 : Nat} {d : Nd} {m : Bool} (h : Up s k0 r) : Up s k0 (putF d m r b).1 := by
  unfold putF Up
  simp only
  rw [nodeF_k, nodeF_err]; exact h
theorem pieceF_hb {n i : Nat} {m : Bool} (h : Hb n b) : Hb (n + 1) (pieceF b i m) := by
  refine ⟨?_, fun _ => ?_⟩
  · have := h.1; simp [pieceF]; exact this
  · simp [pieceF]
theorem putF_hb {n : Nat} {d : Nd} {m : Bool} (h : Hb n b) : Hb (n + 1) (putF d m r b).2 := pieceF_hb h
theorem hb_more {n : Nat} (h : Hb n b) : Hb (n + 1) b := ⟨by have := h.1; omega, h.2⟩
theorem mnyF_up {k0 sg a nx : Nat} (hx : k0 < nx ∧ nx ≤ s.size + 3) : Up s k0 (mnyF s sg a nx r b).1 := by
  unfold mnyF
  split
  · split
    · exact .inr hx
    · exact .inl (wrongF_err (by decide) _ _)
  · split
    · split
      · exact .inl (wrongF_err (by decide) _ _)
      · rename_i mn mx lz en h
        have := brcF_le h
        simp only at this
        exact .inr ⟨by show k0 < en; omega, by show en ≤ s.size + 3; omega⟩
    · exact .inr hx
theorem mnyF_hb {n sg a nx : Nat} (h : Hb n b) : Hb (n + 1) (mnyF s sg a nx r b).2 := by
  have hm : ∀ i, b.may = true → Hb (n + 1) ⟨b.ks.dropLast ++ [i], false⟩ := fun i hb => by
    refine ⟨?_, fun q => by cases q⟩
    have := h.1
    simp; omega
  unfold mnyF
  split
  · split
    · exact putF_hb h
    · exact hb_more h
  · rename_i hb
    have hb' : b.may = true := by cases hq : b.may <;> simp_all
    split
    · split
      · exact hb_more h
      · exact hm _ hb'
    · exact hm _ hb'
theorem grpF_hb {BRS : FS → Nat × FS} {a n : Nat} (h : Hb n b) : Hb (n + 1) (grpF s BRS a r b).2 := by
  unfold grpF
  split
  · exact hb_more h
  · simp only
    split
    · exact hb_more h
    · split
      · exact hb_more h
      · exact putF_hb h
end
end Go.Proofs.YtalmajiflmejcaaGreat
/- The document's reader: collection. -/
namespace Go.Proofs.YtalmajiflmejcaaGreat
open Go.ChangeShapes Go.WideShapes Go.ChangeAt Go.RowKit
set_option linter.unusedVariables false
set_option linter.unusedSimpArgs false
section
variable {B rb : Nat} {s last : ByteArray} {r : FS} {vn : Qv} {w : World} {opn : Nat}
/-- What collection has under way: the answer's box, the set's box. -/
structure Cw (n : Nat) (w : World) (q : S4) (x : World) : Prop where
  eq : w.heap.size = n
  kp : Kp w x
  a : Lc 108 n zeroS.cells x
  b : Lc 108 (n + 1) q.cells x
  ok : q.ok
theorem Cw.more {n : Nat} {q : S4} {x y : World} (h : Cw n w q x) (k : Kp x y) : Cw n w q y := ⟨h.eq, kp_trans h.kp k, h.a.kp k, h.b.kp k, h.ok⟩
theorem Cw.turn {n : Nat} {q q' : S4} {x y : World} (h : Cw n w q x) (f : Fr (On (n + 1)) x y) (hb : Lc 108 (n + 1) q'.cells y) (ho : q'.ok) : Cw n w q' y := by
  have e := h.eq
  exact ⟨h.eq, kp_on h.kp f (by omega), h.a.fr f (by unfold On; omega), hb, ho⟩
theorem cw_new (w : World) : Cw w.heap.size w zeroS ((w.alloc (.cells zeroS.cells.toArray 108)).alloc (.cells zeroS.cells.toArray 108)) := by
  refine ⟨rfl, kp_trans (kp_alloc _ _) (kp_alloc _ _), (Lc.new w _ _).kp (kp_alloc _ _), ?_, ok_zero⟩
  have := Lc.new (w.alloc (.cells zeroS.cells.toArray 108)) zeroS.cells 108
  rw [alloc_size] at this; exact this
/-- .. when it comes to its end. -/
structure Ce (B rb n : Nat) (s last : ByteArray) (R : FS) (vn : Qv) (w : World) (q : S4) (x : World) : Prop where
  eq : w.heap.size = n
  rr : Fq B rb s last R vn x
  fr : Fr (On rb) w x
  a : Lc 108 n zeroS.cells x
  b : Lc 108 (n + 1) q.cells x
theorem Cw.ce {n : Nat} {q : S4} {x : World} (h : Cw n w q x) (h0 : Fq B rb s last r vn w) : Ce B rb n s last r vn w q x := ⟨h.eq, h0.kp h.kp, Fr.of_below h.kp, h.a, h.b⟩
theorem Ce.on {n : Nat} {q : S4} {R R' : FS} {x y : World} (h : Ce B rb n s last R vn w q x) (hr : Fq B rb s last R' vn y) (f : Fr (On rb) x y) (hn : rb < n) : Ce B rb n s last R' vn w q y :=
  ⟨h.eq, hr, h.fr.trans f, h.a.fr f (by unfold On; omega), h.b.fr f (by unfold On; omega)⟩
theorem Ce.kp {n : Nat} {q : S4} {R : FS} {x y : World} (h : Ce B rb n s last R vn w q x) (k : Kp x y) : Ce B rb n s last R vn w q y := ⟨h.eq, h.rr.kp k, h.fr.trans (Fr.of_below k), h.a.kp k, h.b.kp k⟩
theorem Ce.off {n m : Nat} {q : S4} {R : FS} {x y : World} (h : Ce B rb n s last R vn w q x) (h0 : Fq B rb s last r vn w) (f : Fr (On m) x y) (hm : w.heap.size ≤ m) : Fq B rb s last R vn y ∧ Fr (On rb) w y := by
  have hl := h0.lt
  exact ⟨h.rr.off (P := On m) (fun j hj => by unfold On at hj; subst hj; exact ⟨⟨by omega, fun q => by have := (h0.own _ q).2; omega⟩, fun q => by have := h0.kbl _ q; omega⟩) f, h.fr.trans' f fun j hj q => by unfold On at q; omega⟩
theorem Ce.turn {n : Nat} {q q' : S4} {R : FS} {x y : World} (h : Ce B rb n s last R vn w q x) (h0 : Fq B rb s last r vn w) (f : Fr (On (n + 1)) x y) (hb : Lc 108 (n + 1) q'.cells y) : Ce B rb n s last R vn w q' y := by
  have e := h.eq
  obtain ⟨h1, h2⟩ := h.off h0 f (by omega)
  exact ⟨h.eq, h1, h2, h.a.fr f (by unfold On; omega), hb⟩
/-- What collection comes to. -/
def RetS (B rb : Nat) (s last : ByteArray) (r : FS) (vn : Qv) (w : World) (opn : Nat) (no : Bool) (X : Option (S4 × Bool × Nat)) (e : Ending) (w' : World) : Prop :=
  match X with
  | none => e = .returned (.tuple #[zeroS.val, .int .i64 0]) ∧ Fq B rb s last r vn w' ∧ Fr (On rb) w w'
  | some (q, fl, en) => e = .returned (.tuple #[(if no then notS q else q).val, .int .i64 en]) ∧ Fq B rb s last (if fl then wrongF 30 opn r else r) vn w' ∧ Fr (On rb) w w'
set_option maxHeartbeats 8000000 in
set_option maxRecDepth 100000 in
theorem collection_any (h : Fq B rb s last r vn w) (hs : s.size ≤ 400) (ho : opn ≤ 900) (X : Option (S4 × Bool × Nat)) (no : Bool) (hno : isAt s (opn + 1) 94 = no) (hX : clL s (s.size + 2) (if no then opn + 2 else opn + 1) zeroS false true = X) :
    Calls Tryz.prog 166 #[.pointer (some ⟨rb, 0, none⟩), .int .i64 opn] w (RetS B rb s last r vn w opn no X) := by
  obtain ⟨dT, hT1, hT2⟩ := rowSet
  have H0 : Hid (Fq B rb s last r vn w) := h
  have HC : Hid _ := cw_new w
  have HX : Hid (clL s (s.size + 2) (if no then opn + 2 else opn + 1) zeroS false true = X) := hX
  obtain ⟨O1, hO1⟩ : ∃ O1, opn + 1 = O1 := ⟨_, rfl⟩
  obtain ⟨O2, hO2⟩ : ∃ O2, opn + 2 = O2 := ⟨_, rfl⟩
  rw [hO1] at hno HX
  rw [hO2] at HX
  have i1 : (opn : Int) + 1 = (O1 : Int) := by omega
  have i2 : (O1 : Int) + 1 = (O2 : Int) := by omega
  have l1 : O1 ≤ 901 := by omega
  have l2 : O2 ≤ 902 := by omega
  have HNO : Hid (isAt s O1 94 = no) := hno
  have hrb := h.lt
  have c0 := kp_cell (kp_alloc w (.cells zeroS.cells.toArray 108)) h.c0
  obtain ⟨n, hn⟩ : ∃ n, w.heap.size = n := ⟨_, rfl⟩
  rw [hn] at HC
  clear h hX hO1 hO2 hno
  go_enter Tryz.func166, Tryz.ntmps166
  go_upto_region 2 with fail
  change Code.wp _ _ _ _ (w.alloc (.cells zeroS.cells.toArray 108))
  obtain ⟨W0, hW0⟩ : ∃ W0, w.alloc (.cells zeroS.cells.toArray 108) = W0 := ⟨_, rfl⟩
  rw [hW0] at c0 ⊢
  have HS0 : Hid (W0.heap.size = n + 1 ∧ w.alloc (.cells zeroS.cells.toArray 108) = W0) := ⟨by rw [← hW0, alloc_size, hn], hW0⟩
  clear hW0
  obtain ⟨y1, hy1⟩ : ∃ y1, isAt s O1 94 = y1 := ⟨_, rfl⟩
  have HTy1 : Hid (isAt s O1 94 = y1) := hy1
  clear hy1
  go_cut [7] from 18 (fun v wx => v = .bool y1 ∧ W0 = wx)
  case first =>
    have hT := HTy1.out
    by_cases g1 : O1 < s.size
    · have m1 : decide ((O1 : Int) < (s.size : Int)) = true := decide_eq_true (by omega)
      have m1' : decide (O1 < s.size) = true := decide_eq_true g1
      obtain ⟨C, hC⟩ : ∃ C, (s[O1]).toNat = C := ⟨_, rfl⟩
      have hCb : byteAt s O1 = C := by rw [byteAt_eq s O1 g1]; exact hC
      by_cases g2 : C = 94
      · have m2 : ((C : Int) == 94) = true := by simp; omega
        have hy2 : y1 = true := by rw [← hT]; unfold isAt; rw [m1', hCb, beq_iff_eq.2 g2]; rfl
        subst hy2
        clear HTy1 hT hCb g2
        go_wp2_with fail
        go_meet
        case rel => exact ⟨rfl, rfl⟩
      · have m2 : ((C : Int) == 94) = false := by simp; omega
        have hy2 : y1 = false := by rw [← hT]; unfold isAt; rw [m1', hCb, beq_eq_false_iff_ne.2 g2]; rfl
        subst hy2
        clear HTy1 hT hCb g2
        go_wp2_with fail
        go_meet
        case rel => exact ⟨rfl, rfl⟩
    · have m1 : decide ((O1 : Int) < (s.size : Int)) = false := decide_eq_false (by omega)
      have m1' : decide (O1 < s.size) = false := decide_eq_false g1
      have hy2 : y1 = false := by rw [← hT]; unfold isAt; rw [m1']; rfl
      subst hy2
      clear HTy1 hT
      go_wp2_with fail
      go_meet
      case rel => exact ⟨rfl, rfl⟩
  case rest =>
    obtain ⟨rfl, rfl⟩ := hcut
    have HNY : Hid (no = y1) := by show no = y1; rw [← HNO.out]; exact HTy1.out
    clear HTy1 HNO
    go_upto_if 36 with fail
    go_cut [6] from 37 (fun v6 wx => v6 = .int .i64 (if y1 then O2 else O1 : Nat) ∧ W0 = wx)
    case first =>
      cases y1
      · go_wp2_with fail
        go_meet
        case rel => exact ⟨rfl, rfl⟩
      · go_wp2_with fail
        go_meet
        case rel => exact ⟨by go_num, rfl⟩
    case rest =>
      obtain ⟨rfl, rfl⟩ := hcut
      obtain ⟨A, hA⟩ : ∃ A : Nat, (if y1 then O2 else O1) = A := ⟨_, rfl⟩
      rw [hA]
      have HX2 : Hid (clL s (s.size + 2) A zeroS false true = X ∧ A ≤ 902) := ⟨by have := HX.out; rw [HNY.out, hA] at this; exact this, by rw [← hA]; split <;> omega⟩
      clear HX hA i1 i2 l1 l2 c0
      go_wp2_with fail
      try change Exit.then _ _ _ _ (W0.alloc (.cells zeroS.cells.toArray 108))
      have HC1 : Hid (Cw n w zeroS (W0.alloc (.cells zeroS.cells.toArray 108))) := by have := HC.out; rw [HS0.out.2] at this; exact this
      clear HC
      rw [HS0.out.1]
      go_loopw [6, 9, 10] (fun v6 v9 v10 wr => ∃ (f a : Nat) (q : S4) (fl fi : Bool), v6 = .int .i64 a ∧ v9 = .bool fl ∧ v10 = .bool fi ∧ s.size < f + a ∧ a ≤ 910 ∧ clL s f a q fl fi = X ∧ Cw n w q wr) (fun v6 _ _ _ => s.size - (intOf v6).toNat)
      case atStart => exact ⟨s.size + 2, A, zeroS, false, true, rfl, rfl, rfl, by omega, by have := HX2.out.2; omega, HX2.out.1, HC1.out⟩
      case round =>
        obtain ⟨f, a, q, fl, fi, rfl, rfl, rfl, g1, g2, g3, g4⟩ := hrel
        have H1 : Hid (Cw n w q wr) := g4
        have c0 : wr.cell? ⟨rb, 0, none⟩ = some (.string s) := kp_cell g4.kp H0.out.c0
        clear g4 HC1 HX2
        by_cases hlt : ¬ a < s.size
        · have hXn : X = none := by
            rw [← g3]
            cases f with
            | zero => rfl
            | succ f => rw [clL, if_neg hlt]
          have k1 : decide ((a : Int) < (s.size : Int)) = false := decide_eq_false (by omega)
          have k1' : decide (a < s.size) = false := decide_eq_false hlt
          subst hXn
          clear hlt g3
          go_wp2_with (refine wpList_store_box H1.out.a 0 zeroS.cells rfl 108 (.tmp 4) (.tmp 140) rfl rfl rfl (Nat.le_refl 4) sizeSet (oneSet _) rfl ?_; intro wz lz fz sz; have HZ : Hid (Lc 108 n zeroS.cells wz ∧ Kp w wz) := ⟨lz, kp_on H1.out.kp fz (by rw [H1.out.eq]; exact Nat.le_refl _)⟩; clear lz fz sz)
          exact bodyPost_ret (results_box2 rfl rfl HZ.out.1 hT1 hT2 sizeSet) rfl ⟨rfl, H0.out.kp HZ.out.2, Fr.of_below HZ.out.2⟩
        · have hlt : a < s.size := by omega
          obtain ⟨f, rfl⟩ : ∃ f', f = f' + 1 := ⟨f - 1, by omega⟩
          rw [clL, if_pos hlt] at g3
          have k1 : decide ((a : Int) < (s.size : Int)) = true := decide_eq_true (by omega)
          have k1' : decide (a < s.size) = true := decide_eq_true hlt
          obtain ⟨C, hC⟩ : ∃ C, (s[a]).toNat = C := ⟨_, rfl⟩
          rw [byteAt_eq s a hlt, hC] at g3
          have s0 : wr.cell? ⟨n + 1, 0, none⟩ = some (.int .u64 q.a) := H1.out.b.at rfl
          have s1 : wr.cell? ⟨n + 1, 1, none⟩ = some (.int .u64 q.b) := H1.out.b.at rfl
          have s2 : wr.cell? ⟨n + 1, 2, none⟩ = some (.int .u64 q.c) := H1.out.b.at rfl
          have s3 : wr.cell? ⟨n + 1, 3, none⟩ = some (.int .u64 q.d) := H1.out.b.at rfl
          by_cases hend : C = 93 ∧ fi = false
          · rw [if_pos hend] at g3
            obtain ⟨p1, rfl⟩ := hend
            have k2 : ((C : Int) == 93) = true := by simp; omega
            subst g3
            obtain ⟨A1, hA1⟩ : ∃ A1, a + 1 = A1 := ⟨_, rfl⟩
            have i3 : (a : Int) + 1 = (A1 : Int) := by omega
            have HW : Hid (∀ x, Fq B rb s last r vn x → Calls Tryz.prog 139 #[.pointer (some ⟨rb, 0, none⟩), .int .i64 30, .int .i64 opn] x fun e w' => e = .returned (.tuple #[]) ∧ Fq B rb s last (wrongF 30 opn r) vn w' ∧ Fr (On rb) x w') := fun x hx => fwrong_any hx 30 opn
            have HNt : Hid (∀ x, Calls Tryz.prog 189 #[.agg #[.int .u64 q.a, .int .u64 q.b, .int .u64 q.c, .int .u64 q.d]] x fun e w' => e = .returned (.agg #[.int .u64 (notS q).a, .int .u64 (notS q).b, .int .u64 (notS q).c, .int .u64 (notS q).d]) ∧ Kp x w') := fun x => rNot_any q H1.out.ok x
            have HA1 : Hid (a + 1 = A1) := hA1
            unfold RetS
            rw [HNY.out, hA1]
            clear p1 hA1
            have hrn : rb < n := by omega
            have HE : Hid (Ce B rb n s last r vn w q wr) := H1.out.ce H0.out
            clear H1
            cases fl <;> cases y1
            case false.false =>
              go_wp2_with (first | (refine wpList_store_box HE.out.a 0 (q).cells rfl 108 (.tmp 4) (.tmp 65) rfl rfl rfl (Nat.le_refl 4) sizeSet (oneSet _) rfl ?_; intro wz lz fz sz; have HZ : Hid (Lc 108 n (q).cells wz ∧ Fq B rb s last (r) vn wz ∧ Fr (On rb) w wz) := ⟨lz, HE.out.off H0.out fz (by rw [HE.out.eq]; exact Nat.le_refl _)⟩; clear lz fz sz))
              exact bodyPost_ret (results_box2 rfl rfl HZ.out.1 hT1 hT2 sizeSet) rfl ⟨rfl, HZ.out.2⟩
            case false.true =>
              go_wp2_with (first | (go_at_call 189; refine Calls.mono (HNt.out _) ?_; rintro e w3 ⟨rfl, q1⟩; have HE3 : Hid (Ce B rb n s last (r) vn w q w3) := HE.out.kp q1; clear q1) | (refine wpList_store_box HE3.out.b 0 (notS q).cells rfl 108 (.tmp 8) (.tmp 64) rfl rfl rfl (Nat.le_refl 4) sizeSet (oneSet _) rfl ?_; intro w4 l4 f4 z4; have HE4 : Hid (Ce B rb n s last (r) vn w (notS q) w4) := HE3.out.turn H0.out f4 l4; clear l4 f4 z4) | (refine wpList_load_box HE4.out.b 0 (notS q).cells rfl 108 (.tmp 8) rfl rfl rfl dT hT1 hT2 sizeSet ?_) | (refine wpList_store_box HE4.out.a 0 (notS q).cells rfl 108 (.tmp 4) (.tmp 65) rfl rfl rfl (Nat.le_refl 4) sizeSet (oneSet _) rfl ?_; intro wz lz fz sz; have HZ : Hid (Lc 108 n (notS q).cells wz ∧ Fq B rb s last (r) vn wz ∧ Fr (On rb) w wz) := ⟨lz, HE4.out.off H0.out fz (by rw [HE4.out.eq]; exact Nat.le_refl _)⟩; clear lz fz sz))
              exact bodyPost_ret (results_box2 rfl rfl HZ.out.1 hT1 hT2 sizeSet) rfl ⟨rfl, HZ.out.2⟩
            case true.false =>
              go_wp2_with (first | (go_at_call 139; refine Calls.mono (HW.out _ HE.out.rr) ?_; rintro e w2 ⟨rfl, q1, q2⟩; have HE2 : Hid (Ce B rb n s last (wrongF 30 opn r) vn w q w2) := HE.out.on q1 q2 hrn; clear q1 q2 s0 s1 s2 s3; have s0 : w2.cell? ⟨n + 1, 0, none⟩ = some (.int .u64 q.a) := HE2.out.b.at rfl; have s1 : w2.cell? ⟨n + 1, 1, none⟩ = some (.int .u64 q.b) := HE2.out.b.at rfl; have s2 : w2.cell? ⟨n + 1, 2, none⟩ = some (.int .u64 q.c) := HE2.out.b.at rfl; have s3 : w2.cell? ⟨n + 1, 3, none⟩ = some (.int .u64 q.d) := HE2.out.b.at rfl) | (refine wpList_store_box HE2.out.a 0 (q).cells rfl 108 (.tmp 4) (.tmp 65) rfl rfl rfl (Nat.le_refl 4) sizeSet (oneSet _) rfl ?_; intro wz lz fz sz; have HZ : Hid (Lc 108 n (q).cells wz ∧ Fq B rb s last (wrongF 30 opn r) vn wz ∧ Fr (On rb) w wz) := ⟨lz, HE2.out.off H0.out fz (by rw [HE2.out.eq]; exact Nat.le_refl _)⟩; clear lz fz sz))
              exact bodyPost_ret (results_box2 rfl rfl HZ.out.1 hT1 hT2 sizeSet) rfl ⟨rfl, HZ.out.2⟩
            case true.true =>
              go_wp2_with (first | (go_at_call 139; refine Calls.mono (HW.out _ HE.out.rr) ?_; rintro e w2 ⟨rfl, q1, q2⟩; have HE2 : Hid (Ce B rb n s last (wrongF 30 opn r) vn w q w2) := HE.out.on q1 q2 hrn; clear q1 q2 s0 s1 s2 s3; have s0 : w2.cell? ⟨n + 1, 0, none⟩ = some (.int .u64 q.a) := HE2.out.b.at rfl; have s1 : w2.cell? ⟨n + 1, 1, none⟩ = some (.int .u64 q.b) := HE2.out.b.at rfl; have s2 : w2.cell? ⟨n + 1, 2, none⟩ = some (.int .u64 q.c) := HE2.out.b.at rfl; have s3 : w2.cell? ⟨n + 1, 3, none⟩ = some (.int .u64 q.d) := HE2.out.b.at rfl) | (go_at_call 189; refine Calls.mono (HNt.out _) ?_; rintro e w3 ⟨rfl, q1⟩; have HE3 : Hid (Ce B rb n s last (wrongF 30 opn r) vn w q w3) := HE2.out.kp q1; clear q1) | (refine wpList_store_box HE3.out.b 0 (notS q).cells rfl 108 (.tmp 8) (.tmp 64) rfl rfl rfl (Nat.le_refl 4) sizeSet (oneSet _) rfl ?_; intro w4 l4 f4 z4; have HE4 : Hid (Ce B rb n s last (wrongF 30 opn r) vn w (notS q) w4) := HE3.out.turn H0.out f4 l4; clear l4 f4 z4) | (refine wpList_load_box HE4.out.b 0 (notS q).cells rfl 108 (.tmp 8) rfl rfl rfl dT hT1 hT2 sizeSet ?_) | (refine wpList_store_box HE4.out.a 0 (notS q).cells rfl 108 (.tmp 4) (.tmp 65) rfl rfl rfl (Nat.le_refl 4) sizeSet (oneSet _) rfl ?_; intro wz lz fz sz; have HZ : Hid (Lc 108 n (notS q).cells wz ∧ Fq B rb s last (wrongF 30 opn r) vn wz ∧ Fr (On rb) w wz) := ⟨lz, HE4.out.off H0.out fz (by rw [HE4.out.eq]; exact Nat.le_refl _)⟩; clear lz fz sz))
              exact bodyPost_ret (results_box2 rfl rfl HZ.out.1 hT1 hT2 sizeSet) rfl ⟨rfl, HZ.out.2⟩
          · rw [if_neg hend] at g3
            have HG : Hid _ := g3
            clear g3 s0 s1 s2 s3
            go_upto_region 9 with fail
            go_cut [57] from 47 to 139 (fun v wx => v = .bool false ∧ wr = wx)
            case first =>
              by_cases p1 : C = 93
              · have k2 : ((C : Int) == 93) = true := by simp; omega
                have hfi : fi = true := by cases fi; exact absurd ⟨p1, rfl⟩ hend; rfl
                subst hfi
                clear hend p1 HG
                go_wp2_with fail
                go_meet
                case rel => exact ⟨rfl, rfl⟩
              · have k2 : ((C : Int) == 93) = false := by simp; omega
                clear hend p1 HG
                go_wp2_with fail
                go_meet
                case rel => exact ⟨rfl, rfl⟩
            case rest =>
              obtain ⟨rfl, rfl⟩ := hcut
              clear hend
              have hg := HG.out
              have HNm : Hid (∀ x, x.cell? ⟨rb, 0, none⟩ = some (.string s) → rb < x.heap.size → Calls Tryz.prog 190 #[.pointer (some ⟨rb, 0, none⟩), .int .i64 a] x fun e w' => e = .returned (.tuple #[(nameF s a).1.val, .int .i64 (nameF s a).2.1, .bool (nameF s a).2.2]) ∧ Kp x w') := fun x hx hl => fname_any hx hl hs hlt
              have hnok := nameF_ok s a
              have hnle := nameF_le s a
              obtain ⟨⟨mo, nx, is⟩, hnm⟩ : ∃ N, nameF s a = N := ⟨_, rfl⟩
              rw [hnm] at hg HNm hnok hnle
              simp only at hg HNm hnok hnle
              unfold S4.val at HNm
              have HG2 : Hid _ := hg
              have HL : Hid (is = true → a < nx ∧ nx ≤ s.size) := hnle
              have hrw : rb < wr.heap.size := Nat.lt_of_lt_of_le hrb H1.out.kp.size
              clear hg HG hnm hnle
              go_upto_region 17 with (go_at_call 190; refine Calls.mono (HNm.out _ c0 hrw) ?_; rintro e w2 ⟨rfl, k2⟩; have H2 : Hid (Cw n w q (w2.alloc (.cells #[.int .u64 mo.a, .int .u64 mo.b, .int .u64 mo.c, .int .u64 mo.d] 108)) ∧ Lc 108 w2.heap.size mo.cells (w2.alloc (.cells #[.int .u64 mo.a, .int .u64 mo.b, .int .u64 mo.c, .int .u64 mo.d] 108))) := ⟨(H1.out.more k2).more (kp_alloc _ _), Lc.new _ _ _⟩; clear k2)
              obtain ⟨W2, hW2⟩ : ∃ W2, w2.alloc (.cells #[.int .u64 mo.a, .int .u64 mo.b, .int .u64 mo.c, .int .u64 mo.d] 108) = W2 := ⟨_, rfl⟩
              obtain ⟨m, hm⟩ : ∃ m, w2.heap.size = m := ⟨_, rfl⟩
              rw [hW2, hm] at H2
              rw [hW2, hm]
              clear hW2 hm HNm c0
              cases is
              case true =>
                have HL2 : Hid (a < nx ∧ nx ≤ s.size ∧ clL s f nx (bothS q mo) fl false = X) := ⟨(HL.out rfl).1, (HL.out rfl).2, by have := HG2.out; rw [if_pos rfl] at this; exact this⟩
                clear HL HG2
                have HB : Hid (∀ x, Calls Tryz.prog 191 #[.agg #[.int .u64 q.a, .int .u64 q.b, .int .u64 q.c, .int .u64 q.d], .agg #[.int .u64 mo.a, .int .u64 mo.b, .int .u64 mo.c, .int .u64 mo.d]] x fun e w' => e = .returned (.agg #[.int .u64 (bothS q mo).a, .int .u64 (bothS q mo).b, .int .u64 (bothS q mo).c, .int .u64 (bothS q mo).d]) ∧ Kp x w') := fun x => rBoth_any q mo H1.out.ok hnok x
                go_wp2_with (first | (refine wpList_load_box H2.out.1.b 0 q.cells rfl 108 (.tmp 8) rfl rfl rfl dT hT1 hT2 sizeSet ?_) | (refine wpList_load_box H2.out.2 0 mo.cells rfl 108 (.tmp 11) rfl rfl rfl dT hT1 hT2 sizeSet ?_) | (go_at_call 191; refine Calls.mono (HB.out _) ?_; rintro e w4 ⟨rfl, k4⟩; have H4 : Hid (Cw n w q w4) := H2.out.1.more k4; clear k4) | (refine wpList_store_box H4.out.b 0 (bothS q mo).cells rfl 108 (.tmp 8) (.tmp 78) rfl rfl rfl (Nat.le_refl 4) sizeSet (oneSet _) rfl ?_; intro w5 l5 f5 z5; have H5 : Hid (Cw n w (bothS q mo) w5) := H4.out.turn f5 l5 (ok_both H1.out.ok hnok); clear l5 f5 z5))
                go_roundw
                case rel => exact ⟨f, nx, bothS q mo, fl, false, rfl, rfl, rfl, by have := HL2.out; omega, by have := HL2.out; omega, HL2.out.2.2, H5.out⟩
                case measure => have := HL2.out; simp [intOf]; omega
              case false =>
                have hg := HG2.out
                rw [if_neg (by simp)] at hg
                have hsl := spF_le s a
                obtain ⟨⟨lo, hi, k2⟩, hsp⟩ : ∃ P, spF s a = P := ⟨_, rfl⟩
                rw [hsp] at hg hsl
                simp only at hg hsl
                have c0 : W2.cell? ⟨rb, 0, none⟩ = some (.string s) := kp_cell H2.out.1.kp H0.out.c0
                have H3 : Hid (Cw n w q W2) := H2.out.1
                obtain ⟨⟨lo', k1⟩, hit⟩ : ∃ I, itemF s a = I := ⟨_, rfl⟩
                have HIt : Hid (∀ x, x.cell? ⟨rb, 0, none⟩ = some (.string s) → Calls Tryz.prog 192 #[.pointer (some ⟨rb, 0, none⟩), .int .i64 a] x fun e w' => e = .returned (.tuple #[.int .u8 lo', .int .i64 k1]) ∧ x = w') := fun x hx => by have := item_any hx hs hlt; rw [hit] at this; exact this.mono fun e w' h => ⟨h.1, h.2.symm⟩
                have hile := itemF_le s a
                rw [hit] at hile
                simp only at hile
                obtain ⟨K1, hK1⟩ : ∃ K1, k1 + 1 = K1 := ⟨_, rfl⟩
                have i3 : (k1 : Int) + 1 = (K1 : Int) := by omega
                have HSp : Hid ((if K1 < s.size ∧ byteAt s k1 = 45 ∧ byteAt s K1 ≠ 93 then (lo', itemF s K1) else (lo', lo', k1)) = (lo, hi, k2)) := by rw [← hsp]; unfold spF; rw [hit]; simp only; rw [hK1]; exact rfl
                have HG3 : Hid _ := hg
                have l4 : k1 ≤ 400 := by have := hile.2.1 hlt; omega
                have l5 : K1 ≤ 401 := by omega
                clear hg HG2 HL hsp hit H2
                obtain ⟨y, hy⟩ : ∃ y, decide (K1 < s.size ∧ byteAt s k1 = 45 ∧ byteAt s K1 ≠ 93) = y := ⟨_, rfl⟩
                have HY : Hid (decide (K1 < s.size ∧ byteAt s k1 = 45 ∧ byteAt s K1 ≠ 93) = y) := hy
                clear hy
                go_upto_region 22 with (go_at_call 192; refine Calls.mono (HIt.out _ c0) ?_; rintro e _ ⟨rfl, rfl⟩)
                go_cut [113] from 86 to 139 (fun v wx => v = .bool y ∧ W2 = wx)
                case first =>
                  by_cases p1 : K1 < s.size
                  · have m1 : decide ((K1 : Int) < (s.size : Int)) = true := decide_eq_true (by omega)
                    have m1' : decide (K1 < s.size) = true := decide_eq_true p1
                    have hkl : k1 < s.size := by omega
                    obtain ⟨D, hD⟩ : ∃ D, (s[k1]).toNat = D := ⟨_, rfl⟩
                    obtain ⟨E, hE⟩ : ∃ E, (s[K1]).toNat = E := ⟨_, rfl⟩
                    have hy := HY.out
                    rw [byteAt_eq s k1 hkl, byteAt_eq s K1 p1, hD, hE] at hy
                    by_cases p2 : D = 45
                    · have m2 : ((D : Int) == 45) = true := by simp; omega
                      by_cases p3 : E = 93
                      · have m3 : ((E : Int) != 93) = false := by simp; omega
                        have hyf : y = false := by rw [← hy]; exact decide_eq_false fun q => q.2.2 p3
                        subst hyf
                        clear hy HY p2 p3 HSp HG3 hK1
                        go_wp2_with fail
                        go_meet
                        case rel => exact ⟨rfl, rfl⟩
                      · have m3 : ((E : Int) != 93) = true := by simp; omega
                        have hyf : y = true := by rw [← hy]; exact decide_eq_true ⟨p1, p2, p3⟩
                        subst hyf
                        clear hy HY p2 p3 HSp HG3 hK1
                        go_wp2_with fail
                        go_meet
                        case rel => exact ⟨rfl, rfl⟩
                    · have m2 : ((D : Int) == 45) = false := by simp; omega
                      have hyf : y = false := by rw [← hy]; exact decide_eq_false fun q => p2 q.2.1
                      subst hyf
                      clear hy HY p2 HSp HG3 hK1
                      go_wp2_with fail
                      go_meet
                      case rel => exact ⟨rfl, rfl⟩
                  · have m1 : decide ((K1 : Int) < (s.size : Int)) = false := decide_eq_false (by omega)
                    have m1' : decide (K1 < s.size) = false := decide_eq_false p1
                    have hyf : y = false := by rw [← HY.out]; exact decide_eq_false fun q => p1 q.1
                    subst hyf
                    clear HY HSp HG3 hK1
                    go_wp2_with fail
                    go_meet
                    case rel => exact ⟨rfl, rfl⟩
                case rest =>
                  obtain ⟨rfl, rfl⟩ := hcut
                  go_upto_if 113 with fail
                  go_cut [15, 16] from 114 to 139 (fun v15 v16 wx => v15 = .int .i64 k2 ∧ v16 = .int .u8 hi ∧ W2 = wx)
                  case first =>
                    cases y
                    · have hq := HSp.out
                      rw [if_neg (of_decide_eq_false HY.out)] at hq
                      simp only [Prod.mk.injEq] at hq
                      obtain ⟨e1, e2, e3⟩ := hq
                      have HEq : Hid (lo' = hi ∧ k1 = k2) := ⟨e2, e3⟩
                      clear e1 e2 e3 HSp HY HG3 hK1
                      go_wp2_with fail
                      go_meet
                      case rel => exact ⟨by rw [HEq.out.2], by rw [HEq.out.1], rfl⟩
                    · have hc := of_decide_eq_true HY.out
                      have hq := HSp.out
                      rw [if_pos hc] at hq
                      simp only [Prod.mk.injEq] at hq
                      obtain ⟨e1, e2⟩ := hq
                      have HIt2 : Hid (∀ x, x.cell? ⟨rb, 0, none⟩ = some (.string s) → Calls Tryz.prog 192 #[.pointer (some ⟨rb, 0, none⟩), .int .i64 K1] x fun e w' => e = .returned (.tuple #[.int .u8 hi, .int .i64 k2]) ∧ x = w') := fun x hx => by have := item_any hx hs hc.1; rw [e2] at this; exact this.mono fun e w' h => ⟨h.1, h.2.symm⟩
                      clear e1 e2 hc HSp HY HG3 hK1
                      go_wp2_with (go_at_call 192; refine Calls.mono (HIt2.out _ c0) ?_; rintro e _ ⟨rfl, rfl⟩)
                      go_meet
                      case rel => exact ⟨rfl, rfl, rfl⟩
                  case rest =>
                    obtain ⟨rfl, rfl, rfl⟩ := hcut
                    have HLo : Hid (lo' = lo) := by
                      have hq := HSp.out
                      split at hq
                      · simp only [Prod.mk.injEq] at hq; exact hq.1
                      · simp only [Prod.mk.injEq] at hq; exact hq.1
                    rw [HLo.out]
                    clear HY HSp hK1 i3 HIt c0 l5 hile HLo
                    obtain ⟨fl2, hfl2⟩ : ∃ fl2, (fl || decide (hi < lo)) = fl2 := ⟨_, rfl⟩
                    have HFl : Hid ((fl || decide (hi < lo)) = fl2) := hfl2
                    rw [hfl2] at HG3
                    clear hfl2
                    go_upto_region 24 with fail
                    go_cut [9] from 121 to 139 (fun v9 wx => v9 = .bool fl2 ∧ W2 = wx)
                    case first =>
                      cases fl
                      · obtain ⟨z, hz⟩ : ∃ z, decide ((hi : Int) < (lo : Int)) = z := ⟨_, rfl⟩
                        have hz' : decide (hi < lo) = z := by rw [← hz, decide_eq_decide]; omega
                        have HF2 : Hid (z = fl2) := by have := HFl.out; rw [hz'] at this; exact this
                        clear HFl HG3
                        go_wp2_with fail
                        go_meet
                        case rel => exact ⟨by rw [HF2.out], rfl⟩
                      · have HF2 : Hid (true = fl2) := HFl.out
                        clear HFl HG3
                        go_wp2_with fail
                        go_meet
                        case rel => exact ⟨by rw [← HF2.out], rfl⟩
                    case rest =>
                      obtain ⟨rfl, rfl⟩ := hcut
                      clear HFl
                      obtain ⟨QQ, hQQ⟩ : ∃ QQ, addL q lo (hi + 1 - lo) = QQ := ⟨_, rfl⟩
                      rw [hQQ] at HG3
                      have HQ : Hid (addL q lo (hi + 1 - lo) = QQ) := hQQ
                      have HSL : Hid (a < k2 ∧ k2 ≤ s.size) := ⟨hsl.1, hsl.2.1 hlt⟩
                      have hlo : lo < 256 := hsl.2.2.1
                      have hhi : hi < 256 := hsl.2.2.2
                      clear hQQ hsl
                      go_wp2_with fail
                      go_loopw [17] (fun v17 wr2 => ∃ (c : Nat) (q2 : S4), v17 = .int .i64 c ∧ lo ≤ c ∧ c ≤ 256 ∧ (c ≤ hi + 1 ∨ c = lo) ∧ addL q2 c (hi + 1 - c) = QQ ∧ Cw n w q2 wr2) (fun v17 _ => 256 - (intOf v17).toNat)
                      case atStart => exact ⟨lo, q, rfl, Nat.le_refl _, by omega, .inr rfl, HQ.out, H3.out⟩
                      case round =>
                        obtain ⟨c, q2, rfl, x1, x2, x3, x4, x5⟩ := hrel
                        have H4 : Hid _ := x5
                        by_cases hc : c ≤ hi
                        · have m1 : decide ((c : Int) ≤ (hi : Int)) = true := decide_eq_true (by omega)
                          have m1' : decide (c ≤ hi) = true := decide_eq_true hc
                          have HX4 : Hid (addL (withS q2 c) (c + 1) (hi + 1 - (c + 1)) = QQ) := by
                            have : hi + 1 - c = (hi + 1 - (c + 1)) + 1 := by omega
                            rw [this, addL] at x4; exact x4
                          have hc2 : c < 256 := by omega
                          have HWt : Hid (∀ x, Calls Tryz.prog 193 #[.agg #[.int .u64 q2.a, .int .u64 q2.b, .int .u64 q2.c, .int .u64 q2.d], .int .u8 c] x fun e w' => e = .returned (.agg #[.int .u64 (withS q2 c).a, .int .u64 (withS q2 c).b, .int .u64 (withS q2 c).c, .int .u64 (withS q2 c).d]) ∧ Kp x w') := fun x => rWith_any q2 H4.out.ok c hc2 x
                          clear x3 x4 x5 HG3
                          go_wp2_with (first | (refine wpList_load_box H4.out.b 0 q2.cells rfl 108 (.tmp 8) rfl rfl rfl dT hT1 hT2 sizeSet ?_) | (go_at_call 193; refine Calls.mono (HWt.out _) ?_; rintro e w6 ⟨rfl, k6⟩; have H6 : Hid (Cw n w q2 w6) := H4.out.more k6; clear k6) | (refine wpList_store_box H6.out.b 0 (withS q2 c).cells rfl 108 (.tmp 8) (.tmp 138) rfl rfl rfl (Nat.le_refl 4) sizeSet (oneSet _) rfl ?_; intro w7 l7 f7 z7; have H7 : Hid (Cw n w (withS q2 c) w7) := H6.out.turn f7 l7 (ok_with H4.out.ok hc2); clear l7 f7 z7))
                          go_roundw
                          case rel => exact ⟨c + 1, withS q2 c, by go_num, by omega, by omega, .inl (by omega), HX4.out, H7.out⟩
                          case measure => simp [intOf]; omega
                        · have m1 : decide ((c : Int) ≤ (hi : Int)) = false := decide_eq_false (by omega)
                          have m1' : decide (c ≤ hi) = false := decide_eq_false hc
                          have hq2 : q2 = QQ := by have : hi + 1 - c = 0 := by omega
                                                   rw [this, addL] at x4; exact x4
                          subst hq2
                          clear x3 x4 x5 HQ
                          go_wp2_with fail
                          go_roundw
                          case rel => exact ⟨f, k2, q2, fl2, false, rfl, rfl, rfl, by have := HSL.out; omega, by have := HSL.out; omega, HG3.out, H4.out⟩
                          case measure => have := HSL.out; simp [intOf]; omega
end
end Go.Proofs.YtalmajiflmejcaaGreat
/- The document's reader: braces. -/
namespace Go.Proofs.YtalmajiflmejcaaGreat
open Go.ChangeShapes Go.WideShapes Go.ChangeAt Go.RowKit
set_option linter.unusedVariables false
set_option linter.unusedSimpArgs false
theorem rowNd : ∃ d, Tryz.prog.underlying 195 = some d ∧ d.isRow = true := ⟨_, Tryz.underlying195, rfl⟩
theorem sizeNd2 : (Tryz.prog.info? 195).map (·.size) = some 11 := by kernel_rfl
theorem oneNd2 (d : Nd) : ∀ v ∈ d.cells (.slice none 0 0), v.oneCell' = true := by
  intro u hu
  simp only [Nd.cells, List.mem_cons, List.not_mem_nil, or_false] at hu
  rcases hu with rfl | rfl | rfl | rfl | rfl | rfl | rfl | rfl | rfl | rfl | rfl <;> rfl
section
variable {rb : Nat} {s : ByteArray} {a0 : Nat} {w : World}
/-- What braces has under way: the answer's box, the node's box. -/
structure Nb (rb n : Nat) (s : ByteArray) (w : World) (mn : Nat) (mx : Int) (lz : Bool) (x : World) : Prop where
  eq : w.heap.size = n
  kp : Kp w x
  a : Lc 195 n (Nd.cells { op := 0 } (.slice none 0 0)) x
  b : Lc 195 (n + 1) (Nd.cells { op := 7, mn := mn, mx := mx, lz := lz } (.slice none 0 0)) x
  c0 : x.cell? ⟨rb, 0, none⟩ = some (.string s)
theorem Nb.turn {n mn mn2 : Nat} {mx mx2 : Int} {lz lz2 : Bool} {x y : World} (h : Nb rb n s w mn mx lz x) (hrb : rb < w.heap.size) (f : Fr (On (n + 1)) x y) (hb : Lc 195 (n + 1) (Nd.cells { op := 7, mn := mn2, mx := mx2, lz := lz2 } (.slice none 0 0)) y) : Nb rb n s w mn2 mx2 lz2 y := by
  have e := h.eq
  have k : Kp w y := kp_on h.kp f (by omega)
  refine ⟨h.eq, k, h.a.fr f (by unfold On; omega), hb, ?_⟩
  have hl : rb < x.heap.size := Nat.lt_of_lt_of_le hrb h.kp.size
  have := h.c0
  unfold World.cell? at this ⊢
  rw [f.block rb hl (by unfold On; omega)]; exact this
theorem nb_new (c0 : w.cell? ⟨rb, 0, none⟩ = some (.string s)) : Nb rb w.heap.size s w 0 (-1) false ((w.alloc (.cells (Nd.cells { op := 0 } (.slice none 0 0)).toArray 195)).alloc (.cells (Nd.cells { op := 7, mx := -1 } (.slice none 0 0)).toArray 195)) := by
  have k : Kp w ((w.alloc (.cells (Nd.cells { op := 0 } (.slice none 0 0)).toArray 195)).alloc (.cells (Nd.cells { op := 7, mx := -1 } (.slice none 0 0)).toArray 195)) := kp_trans (kp_alloc _ _) (kp_alloc _ _)
  refine ⟨rfl, k, (Lc.new w _ _).kp (kp_alloc _ _), ?_, kp_cell k c0⟩
  have := Lc.new (w.alloc (.cells (Nd.cells { op := 0 } (.slice none 0 0)).toArray 195)) (Nd.cells { op := 7, mx := -1 } (.slice none 0 0)) 195
  rw [alloc_size] at this; exact this
/-- What braces comes to. -/
def RetC (R : Option (Nat × Int × Bool × Nat)) (w : World) (e : Ending) (w' : World) : Prop :=
  Kp w w' ∧ match R with
    | none => ∃ d : Nd, e = .returned (.tuple #[d.val (.slice none 0 0), .int .i64 0, .bool false])
    | some (mn, mx, lz, en) => e = .returned (.tuple #[Nd.val { op := 7, mn := mn, mx := mx, lz := lz } (.slice none 0 0), .int .i64 en, .bool true])
set_option maxHeartbeats 8000000 in
set_option maxRecDepth 100000 in
theorem braces_any (c0 : w.cell? ⟨rb, 0, none⟩ = some (.string s)) (hrb : rb < w.heap.size) (hs : s.size ≤ 400) (ha : a0 ≤ 900) (R : Option (Nat × Int × Bool × Nat)) (hR : brcF s a0 = R) :
    Calls Tryz.prog 194 #[.pointer (some ⟨rb, 0, none⟩), .int .i64 a0] w (RetC R w) := by
  obtain ⟨dT, hT1, hT2⟩ := rowNd
  have HN : Hid _ := nb_new c0
  have HR : Hid (brcF s a0 = R) := hR
  obtain ⟨n, hn⟩ : ∃ n, w.heap.size = n := ⟨_, rfl⟩
  clear hR
  go_enter Tryz.func194, Tryz.ntmps194
  go_upto_region 2 with fail
  change Code.wp _ _ _ _ ((w.alloc (.cells (Nd.cells { op := 0 } (.slice none 0 0)).toArray 195)).alloc (.cells (Nd.cells { op := 7, mx := -1 } (.slice none 0 0)).toArray 195))
  rw [hn] at HN
  generalize (w.alloc (.cells (Nd.cells { op := 0 } (.slice none 0 0)).toArray 195)).alloc (.cells (Nd.cells { op := 7, mx := -1 } (.slice none 0 0)).toArray 195) = W0 at HN ⊢
  clear c0
  have hrb' : rb < n := by omega
  clear hn
  have c0 := HN.out.c0
  have b8 : W0.cell? ⟨n + 1, 8, none⟩ = some (.bool false) := HN.out.b.at rfl
  have f8 := HN.out.b.fz 8
  obtain ⟨A1, hA1⟩ : ∃ A1, a0 + 1 = A1 := ⟨_, rfl⟩
  have i1 : (a0 : Int) + 1 = (A1 : Int) := by omega
  have l1 : A1 ≤ 901 := by omega
  obtain ⟨y1, hy1⟩ : ∃ y1, isAt s a0 45 = y1 := ⟨_, rfl⟩
  have HTy1 : Hid (isAt s a0 45 = y1) := hy1
  clear hy1
  go_cut [30] from 15 (fun v wx => v = .bool y1 ∧ W0 = wx)
  case first =>
    have hT := HTy1.out
    by_cases g1 : a0 < s.size
    · have m1 : decide ((a0 : Int) < (s.size : Int)) = true := decide_eq_true (by omega)
      have m1' : decide (a0 < s.size) = true := decide_eq_true g1
      obtain ⟨C, hC⟩ : ∃ C, (s[a0]).toNat = C := ⟨_, rfl⟩
      have hCb : byteAt s a0 = C := by rw [byteAt_eq s a0 g1]; exact hC
      by_cases g2 : C = 45
      · have m2 : ((C : Int) == 45) = true := by simp; omega
        have hy2 : y1 = true := by rw [← hT]; unfold isAt; rw [m1', hCb, beq_iff_eq.2 g2]; rfl
        subst hy2
        clear HTy1 hT hCb g2
        go_wp2_with fail
        go_meet
        case rel => exact ⟨rfl, rfl⟩
      · have m2 : ((C : Int) == 45) = false := by simp; omega
        have hy2 : y1 = false := by rw [← hT]; unfold isAt; rw [m1', hCb, beq_eq_false_iff_ne.2 g2]; rfl
        subst hy2
        clear HTy1 hT hCb g2
        go_wp2_with fail
        go_meet
        case rel => exact ⟨rfl, rfl⟩
    · have m1 : decide ((a0 : Int) < (s.size : Int)) = false := decide_eq_false (by omega)
      have m1' : decide (a0 < s.size) = false := decide_eq_false g1
      have hy2 : y1 = false := by rw [← hT]; unfold isAt; rw [m1']; rfl
      subst hy2
      clear HTy1 hT
      go_wp2_with fail
      go_meet
      case rel => exact ⟨rfl, rfl⟩
  case rest =>
    obtain ⟨rfl, rfl⟩ := hcut
    have HR2 : Hid ((if y1 then brc2 s true A1 else brc2 s false a0) = R) := by have := HR.out; unfold brcF at this; rw [HTy1.out, hA1] at this; exact this
    clear HR HTy1 hA1
    go_upto_if 30 with fail
    go_cut [1] from 31 (fun v1 wx => ∃ (lz : Bool) (a : Nat), v1 = .int .i64 a ∧ a ≤ 901 ∧ brc2 s lz a = R ∧ Nb rb n s w 0 (-1) lz wx)
    case first =>
      cases y1
      · go_wp2_with fail
        go_meet
        case rel => exact ⟨false, a0, rfl, by omega, HR2.out, HN.out⟩
      · have HN2 : Hid _ := HN.out.turn (mn2 := 0) (mx2 := -1) (lz2 := true) hrb (fr_set _ 8 (.bool true) _) (HN.out.b.set 8 (.bool true))
        go_wp2_with fail
        go_meet
        case rel => exact ⟨true, A1, by go_num, l1, HR2.out, HN2.out⟩
    case rest =>
      obtain ⟨lz, a, rfl, hal, hR2, hN⟩ := hcut
      clear b8 f8 c0 HN HR2 i1 l1
      have HN : Hid _ := hN
      have c0 := hN.c0
      unfold brc2 at hR2
      have HNm : Hid (∀ x, x.cell? ⟨rb, 0, none⟩ = some (.string s) → Calls Tryz.prog 208 #[.pointer (some ⟨rb, 0, none⟩), .int .i64 a] x fun e w' => e = .returned (.tuple #[.int .i64 (nrF s a).1, .int .i64 (nrF s a).2.1, .bool (nrF s a).2.2]) ∧ x = w') := fun x hx => (fnumber_any hx hs (by omega)).mono fun e w' h => ⟨h.1, h.2.symm⟩
      have hle := nrF_le s a
      have hnum := nrF_num s a
      obtain ⟨⟨lo, k, is⟩, hnr⟩ : ∃ N, nrF s a = N := ⟨_, rfl⟩
      rw [hnr] at hR2 HNm hle hnum
      simp only at hR2 HNm hle hnum
      clear hN hnr
      have b6 : wc.cell? ⟨n + 1, 6, none⟩ = some (.int .i64 0) := HN.out.b.at rfl
      have f6 := HN.out.b.fz 6
      obtain ⟨yk, hyk⟩ : ∃ yk, decide (a < k) = yk := ⟨_, rfl⟩
      have hyk' : decide ((a : Int) < (k : Int)) = yk := by rw [← hyk, decide_eq_decide]; omega
      by_cases hbad : a < k ∧ is = false
      · rw [if_pos hbad] at hR2
        obtain ⟨q1, rfl⟩ := hbad
        rw [decide_eq_true q1] at hyk
        subst hyk
        subst hR2
        have m9 : decide (a < k) = true := decide_eq_true q1
        clear b6 f6 q1
        go_wp2_with (first | (go_at_call 208; refine Calls.mono (HNm.out _ c0) ?_; rintro e _ ⟨rfl, rfl⟩) | (refine wpList_load_box HN.out.b 0 (Nd.cells ({ op := 7, mn := 0, mx := -1, lz := lz }) (.slice none 0 0)) rfl 195 (.tmp 7) rfl rfl rfl dT hT1 hT2 sizeNd2 ?_) | (refine wpList_store_box HN.out.a 0 (Nd.cells ({ op := 7, mn := 0, mx := -1, lz := lz }) (.slice none 0 0)) rfl 195 (.tmp 4) (.tmp 48) rfl rfl rfl (Nat.le_refl 11) sizeNd2 (oneNd2 _) rfl ?_; intro wz lz' fz sz; have HZ : Hid (Lc 195 n (Nd.cells ({ op := 7, mn := 0, mx := -1, lz := lz }) (.slice none 0 0)) wz ∧ Kp w wz) := ⟨lz', kp_on HN.out.kp fz (by rw [HN.out.eq]; exact Nat.le_refl _)⟩; clear lz' fz sz))
        exact bodyPost_ret (results_box3 rfl rfl HZ.out.1 hT1 hT2 sizeNd2) rfl ⟨HZ.out.2, ({ op := 7, mn := 0, mx := -1, lz := lz } : Nd), rfl⟩
      · rw [if_neg hbad] at hR2
        have HR3 : Hid _ := hR2
        have hyk2 : (yk && !is) = false := by
          cases yk
          · rfl
          · cases is
            · exact absurd ⟨of_decide_eq_true hyk, rfl⟩ hbad
            · rfl
        have HN3 : Hid (Nb rb n s w lo (-1) lz (wc.setCell ⟨n + 1, 6, none⟩ (.int .i64 lo))) := HN.out.turn hrb (fr_set _ 6 _ _) (HN.out.b.set 6 _)
        clear hR2 hbad
        go_upto_region 6 with (go_at_call 208; refine Calls.mono (HNm.out _ c0) ?_; rintro e _ ⟨rfl, rfl⟩)
        go_cut [47] from 41 (fun v wx => v = .bool false ∧ wc = wx)
        case first =>
          cases yk <;> cases is
          case true.false => cases hyk2
          all_goals
            clear hyk2
            go_wp2_with fail
            go_meet
            case rel => exact ⟨rfl, rfl⟩
        case rest =>
          obtain ⟨rfl, rfl⟩ := hcut
          clear hyk' hyk hyk2 HNm
          go_upto_region 9 with fail
          obtain ⟨W3, hW3⟩ : ∃ W3, wc.setCell ⟨n + 1, 6, none⟩ (.int .i64 lo) = W3 := ⟨_, rfl⟩
          rw [hW3] at HN3 ⊢
          clear hW3 c0 b6 f6 HN
          have b7 : W3.cell? ⟨n + 1, 7, none⟩ = some (.int .i64 (-1)) := HN3.out.b.at rfl
          have f7 := HN3.out.b.fz 7
          go_upto_if 51 with fail
          go_cut [] from 52 (fun wx => Nb rb n s w lo (if is then (lo : Int) else -1) lz wx)
          case first =>
            cases is
            · go_wp2_with fail
              go_meet
              case rel => exact HN3.out
            · have HN4 : Hid (Nb rb n s w lo (lo : Int) lz (W3.setCell ⟨n + 1, 7, none⟩ (.int .i64 lo))) := HN3.out.turn hrb (fr_set _ 7 _ _) (HN3.out.b.set 7 _)
              go_wp2_with fail
              go_meet
              case rel => exact HN4.out
          case rest =>
            obtain ⟨mx0, hmx0⟩ : ∃ mx0 : Int, (if is then (lo : Int) else -1) = mx0 := ⟨_, rfl⟩
            rw [hmx0] at hcut HR3
            have HN4 : Hid _ := hcut
            have c0 := hcut.c0
            have hmb : mx0 < 10000 := by rw [← hmx0]; split <;> omega
            have hkb : k ≤ 905 := by omega
            clear hcut hmx0 b7 f7 HN3 hle hal
            obtain ⟨y2, hy2⟩ : ∃ y2, isAt s k 44 = y2 := ⟨_, rfl⟩
            have HTy2 : Hid (isAt s k 44 = y2) := hy2
            clear hy2
            go_upto_region 12 with fail
            go_cut [70] from 55 (fun v wx => v = .bool y2 ∧ wc = wx)
            case first =>
              have hT := HTy2.out
              by_cases g1 : k < s.size
              · have m1 : decide ((k : Int) < (s.size : Int)) = true := decide_eq_true (by omega)
                have m1' : decide (k < s.size) = true := decide_eq_true g1
                obtain ⟨C, hC⟩ : ∃ C, (s[k]).toNat = C := ⟨_, rfl⟩
                have hCb : byteAt s k = C := by rw [byteAt_eq s k g1]; exact hC
                by_cases g2 : C = 44
                · have m2 : ((C : Int) == 44) = true := by simp; omega
                  have hy2 : y2 = true := by rw [← hT]; unfold isAt; rw [m1', hCb, beq_iff_eq.2 g2]; rfl
                  subst hy2
                  clear HTy2 hT hCb g2
                  go_wp2_with fail
                  go_meet
                  case rel => exact ⟨rfl, rfl⟩
                · have m2 : ((C : Int) == 44) = false := by simp; omega
                  have hy2 : y2 = false := by rw [← hT]; unfold isAt; rw [m1', hCb, beq_eq_false_iff_ne.2 g2]; rfl
                  subst hy2
                  clear HTy2 hT hCb g2
                  go_wp2_with fail
                  go_meet
                  case rel => exact ⟨rfl, rfl⟩
              · have m1 : decide ((k : Int) < (s.size : Int)) = false := decide_eq_false (by omega)
                have m1' : decide (k < s.size) = false := decide_eq_false g1
                have hy2 : y2 = false := by rw [← hT]; unfold isAt; rw [m1']; rfl
                subst hy2
                clear HTy2 hT
                go_wp2_with fail
                go_meet
                case rel => exact ⟨rfl, rfl⟩
            case rest =>
              obtain ⟨rfl, rfl⟩ := hcut
              have HR4 : Hid _ := HR3.out
              unfold brc3 at HR4
              rw [HTy2.out] at HR4
              clear HR3 HTy2
              have b7 : wc.cell? ⟨n + 1, 7, none⟩ = some (.int .i64 mx0) := HN4.out.b.at rfl
              have f7 := HN4.out.b.fz 7
              obtain ⟨A2, hA2⟩ : ∃ A2, k + 1 = A2 := ⟨_, rfl⟩
              have HA2 : Hid (k + 1 = A2) := hA2
              rw [hA2] at HR4
              have i2 : (k : Int) + 1 = (A2 : Int) := by omega
              have l2 : A2 ≤ 906 := by omega
              clear hA2
              go_upto_if 70 with fail
              go_cut [1, 11, 12, 13] from 71 (fun v1 v11 v12 v13 wx => ∃ (mx : Int) (b : Nat), v1 = .int .i64 b ∧ b ≤ 910 ∧ mx < 10000 ∧ brc4 s lz lo mx (if isAt s b 92 then b + 1 else b) = R ∧ Nb rb n s w lo mx lz wx)
              case first =>
                cases y2
                · go_wp2_with fail
                  go_meet
                  case rel => exact ⟨mx0, k, rfl, by omega, hmb, by have := HR4.out; rw [if_neg (by simp)] at this; rw [HA2.out]; exact this, HN4.out⟩
                · have hR5 := HR4.out
                  rw [if_pos rfl] at hR5
                  have HNm : Hid (∀ x, x.cell? ⟨rb, 0, none⟩ = some (.string s) → Calls Tryz.prog 208 #[.pointer (some ⟨rb, 0, none⟩), .int .i64 A2] x fun e w' => e = .returned (.tuple #[.int .i64 (nrF s A2).1, .int .i64 (nrF s A2).2.1, .bool (nrF s A2).2.2]) ∧ x = w') := fun x hx => (fnumber_any hx hs (by omega)).mono fun e w' h => ⟨h.1, h.2.symm⟩
                  have hle := nrF_le s A2
                  have hnum := nrF_num s A2
                  obtain ⟨⟨hi, j, was⟩, hnr⟩ : ∃ N, nrF s A2 = N := ⟨_, rfl⟩
                  rw [hnr] at hR5 HNm hle hnum
                  simp only at hR5 HNm hle hnum
                  clear hnr HR4
                  obtain ⟨yj, hyj⟩ : ∃ yj, decide (A2 < j) = yj := ⟨_, rfl⟩
                  have hyj' : decide ((A2 : Int) < (j : Int)) = yj := by rw [← hyj, decide_eq_decide]; omega
                  by_cases hbad : A2 < j ∧ was = false
                  · rw [if_pos hbad] at hR5
                    obtain ⟨q1, rfl⟩ := hbad
                    rw [decide_eq_true q1] at hyj
                    subst hyj
                    subst hR5
                    have m9 : decide (A2 < j) = true := decide_eq_true q1
                    clear q1 b7 f7
                    go_wp2_with (first | (go_at_call 208; refine Calls.mono (HNm.out _ c0) ?_; rintro e _ ⟨rfl, rfl⟩) | (refine wpList_load_box HN4.out.b 0 (Nd.cells ({ op := 7, mn := lo, mx := mx0, lz := lz }) (.slice none 0 0)) rfl 195 (.tmp 7) rfl rfl rfl dT hT1 hT2 sizeNd2 ?_) | (refine wpList_store_box HN4.out.a 0 (Nd.cells ({ op := 7, mn := lo, mx := mx0, lz := lz }) (.slice none 0 0)) rfl 195 (.tmp 4) (.tmp 87) rfl rfl rfl (Nat.le_refl 11) sizeNd2 (oneNd2 _) rfl ?_; intro wz lz' fz sz; have HZ : Hid (Lc 195 n (Nd.cells ({ op := 7, mn := lo, mx := mx0, lz := lz }) (.slice none 0 0)) wz ∧ Kp w wz) := ⟨lz', kp_on HN4.out.kp fz (by rw [HN4.out.eq]; exact Nat.le_refl _)⟩; clear lz' fz sz))
                    exact bodyPost_ret (results_box3 rfl rfl HZ.out.1 hT1 hT2 sizeNd2) rfl ⟨HZ.out.2, ({ op := 7, mn := lo, mx := mx0, lz := lz } : Nd), rfl⟩
                  · rw [if_neg hbad] at hR5
                    have HR5 : Hid _ := hR5
                    have HN5 : Hid (Nb rb n s w lo (-1) lz (wc.setCell ⟨n + 1, 7, none⟩ (.int .i64 (-1)))) := HN4.out.turn hrb (fr_set _ 7 _ _) (HN4.out.b.set 7 _)
                    have HN6 : Hid (Nb rb n s w lo (hi : Int) lz ((wc.setCell ⟨n + 1, 7, none⟩ (.int .i64 (-1))).setCell ⟨n + 1, 7, none⟩ (.int .i64 hi))) := HN5.out.turn hrb (fr_set _ 7 _ _) (HN5.out.b.set 7 _)
                    have HN7 : Hid (Nb rb n s w lo (hi : Int) lz (wc.setCell ⟨n + 1, 7, none⟩ (.int .i64 hi))) := HN4.out.turn hrb (fr_set _ 7 _ _) (HN4.out.b.set 7 _)
                    cases was
                    · cases yj
                      · clear hR5 hbad
                        go_wp2_with (first | (go_at_call 208; refine Calls.mono (HNm.out _ c0) ?_; rintro e _ ⟨rfl, rfl⟩) )
                        go_meet
                        case rel => exact ⟨-1, j, rfl, by omega, by omega, HR5.out, HN5.out⟩
                      · exact absurd ⟨of_decide_eq_true hyj, rfl⟩ hbad
                    · clear hR5 hbad
                      cases yj
                      all_goals
                        go_wp2_with (first | (go_at_call 208; refine Calls.mono (HNm.out _ c0) ?_; rintro e _ ⟨rfl, rfl⟩) )
                        go_meet
                        case rel => exact ⟨hi, j, rfl, by omega, by omega, HR5.out, by first | exact HN6.out | exact HN7.out⟩
              case rest =>
                obtain ⟨mx, b, rfl, hb9, hmx9, hR6, hN6⟩ := hcut
                have HN6 : Hid _ := hN6
                have HR6 : Hid _ := hR6
                clear hN6 hR6 HN4 HR4 c0 b7 f7 i2 l2 hmb hkb
                have c0 := HN6.out.c0
                obtain ⟨y3, hy3⟩ : ∃ y3, isAt s b 92 = y3 := ⟨_, rfl⟩
                have HTy3 : Hid (isAt s b 92 = y3) := hy3
                clear hy3
                go_upto_region 20 with fail
                go_cut [108] from 93 (fun v wx => v = .bool y3 ∧ wc = wx)
                case first =>
                  have hT := HTy3.out
                  by_cases g1 : b < s.size
                  · have m1 : decide ((b : Int) < (s.size : Int)) = true := decide_eq_true (by omega)
                    have m1' : decide (b < s.size) = true := decide_eq_true g1
                    obtain ⟨C, hC⟩ : ∃ C, (s[b]).toNat = C := ⟨_, rfl⟩
                    have hCb : byteAt s b = C := by rw [byteAt_eq s b g1]; exact hC
                    by_cases g2 : C = 92
                    · have m2 : ((C : Int) == 92) = true := by simp; omega
                      have hy2 : y3 = true := by rw [← hT]; unfold isAt; rw [m1', hCb, beq_iff_eq.2 g2]; rfl
                      subst hy2
                      clear HTy3 hT hCb g2
                      go_wp2_with fail
                      go_meet
                      case rel => exact ⟨rfl, rfl⟩
                    · have m2 : ((C : Int) == 92) = false := by simp; omega
                      have hy2 : y3 = false := by rw [← hT]; unfold isAt; rw [m1', hCb, beq_eq_false_iff_ne.2 g2]; rfl
                      subst hy2
                      clear HTy3 hT hCb g2
                      go_wp2_with fail
                      go_meet
                      case rel => exact ⟨rfl, rfl⟩
                  · have m1 : decide ((b : Int) < (s.size : Int)) = false := decide_eq_false (by omega)
                    have m1' : decide (b < s.size) = false := decide_eq_false g1
                    have hy2 : y3 = false := by rw [← hT]; unfold isAt; rw [m1']; rfl
                    subst hy2
                    clear HTy3 hT
                    go_wp2_with fail
                    go_meet
                    case rel => exact ⟨rfl, rfl⟩
                case rest =>
                  obtain ⟨rfl, rfl⟩ := hcut
                  have HR7 : Hid _ := HR6.out
                  rw [HTy3.out] at HR7
                  clear HR6 HTy3
                  obtain ⟨B1, hB1⟩ : ∃ B1, b + 1 = B1 := ⟨_, rfl⟩
                  rw [hB1] at HR7
                  have i3 : (b : Int) + 1 = (B1 : Int) := by omega
                  have l3 : B1 ≤ 911 := by omega
                  clear hB1
                  go_upto_if 108 with fail
                  go_cut [1] from 109 (fun v1 wx => ∃ (c : Nat), v1 = .int .i64 c ∧ c ≤ 911 ∧ brc4 s lz lo mx c = R ∧ wc = wx)
                  case first =>
                    cases y3
                    · go_wp2_with fail
                      go_meet
                      case rel => exact ⟨b, rfl, by omega, by have := HR7.out; rw [if_neg (by simp)] at this; exact this, rfl⟩
                    · go_wp2_with fail
                      go_meet
                      case rel => exact ⟨B1, by go_num, l3, by have := HR7.out; rw [if_pos (by trivial)] at this; exact this, rfl⟩
                  case rest =>
                    obtain ⟨c, rfl, hc9, hR8, rfl⟩ := hcut
                    clear HR7 i3 l3 hb9
                    unfold brc4 at hR8
                    have b6 : wc.cell? ⟨n + 1, 6, none⟩ = some (.int .i64 lo) := HN6.out.b.at rfl
                    have b7 : wc.cell? ⟨n + 1, 7, none⟩ = some (.int .i64 mx) := HN6.out.b.at rfl
                    obtain ⟨C1, hC1⟩ : ∃ C1, c + 1 = C1 := ⟨_, rfl⟩
                    have i4 : (c : Int) + 1 = (C1 : Int) := by omega
                    have l4 : C1 ≤ 912 := by omega
                    rw [hC1] at hR8
                    clear hC1
                    by_cases p1 : s.size ≤ c
                    · rw [if_pos (.inl p1)] at hR8
                      subst hR8
                      have m1 : decide ((s.size : Int) ≤ (c : Int)) = true := decide_eq_true (by omega)
                      have m1' : decide (s.size ≤ c) = true := decide_eq_true p1
                      clear b6 b7
                      go_upto_if 148 with fail
                      go_wp2_with (first | (refine wpList_load_box HN6.out.b 0 (Nd.cells ({ op := 7, mn := lo, mx := mx, lz := lz }) (.slice none 0 0)) rfl 195 (.tmp 7) rfl rfl rfl dT hT1 hT2 sizeNd2 ?_) | (refine wpList_store_box HN6.out.a 0 (Nd.cells ({ op := 7, mn := lo, mx := mx, lz := lz }) (.slice none 0 0)) rfl 195 (.tmp 4) (.tmp 149) rfl rfl rfl (Nat.le_refl 11) sizeNd2 (oneNd2 _) rfl ?_; intro wz lz' fz sz; have HZ : Hid (Lc 195 n (Nd.cells ({ op := 7, mn := lo, mx := mx, lz := lz }) (.slice none 0 0)) wz ∧ Kp w wz) := ⟨lz', kp_on HN6.out.kp fz (by rw [HN6.out.eq]; exact Nat.le_refl _)⟩; clear lz' fz sz))
                      exact bodyPost_ret (results_box3 rfl rfl HZ.out.1 hT1 hT2 sizeNd2) rfl ⟨HZ.out.2, ({ op := 7, mn := lo, mx := mx, lz := lz } : Nd), rfl⟩
                    have m1 : decide ((s.size : Int) ≤ (c : Int)) = false := decide_eq_false (by omega)
                    have m1' : decide (s.size ≤ c) = false := decide_eq_false p1
                    have hlt : c < s.size := by omega
                    obtain ⟨C, hC⟩ : ∃ C, (s[c]).toNat = C := ⟨_, rfl⟩
                    rw [byteAt_eq s c hlt, hC] at hR8
                    by_cases p2 : C = 125
                    rotate_left
                    · rw [if_pos (.inr (.inl p2))] at hR8
                      subst hR8
                      have m2 : ((C : Int) != 125) = true := by simp; omega
                      clear b6 b7 p2 p1
                      go_upto_if 148 with fail
                      go_wp2_with (first | (refine wpList_load_box HN6.out.b 0 (Nd.cells ({ op := 7, mn := lo, mx := mx, lz := lz }) (.slice none 0 0)) rfl 195 (.tmp 7) rfl rfl rfl dT hT1 hT2 sizeNd2 ?_) | (refine wpList_store_box HN6.out.a 0 (Nd.cells ({ op := 7, mn := lo, mx := mx, lz := lz }) (.slice none 0 0)) rfl 195 (.tmp 4) (.tmp 149) rfl rfl rfl (Nat.le_refl 11) sizeNd2 (oneNd2 _) rfl ?_; intro wz lz' fz sz; have HZ : Hid (Lc 195 n (Nd.cells ({ op := 7, mn := lo, mx := mx, lz := lz }) (.slice none 0 0)) wz ∧ Kp w wz) := ⟨lz', kp_on HN6.out.kp fz (by rw [HN6.out.eq]; exact Nat.le_refl _)⟩; clear lz' fz sz))
                      exact bodyPost_ret (results_box3 rfl rfl HZ.out.1 hT1 hT2 sizeNd2) rfl ⟨HZ.out.2, ({ op := 7, mn := lo, mx := mx, lz := lz } : Nd), rfl⟩
                    have m2 : ((C : Int) != 125) = false := by simp; omega
                    by_cases p3 : 60 < lo
                    · rw [if_pos (.inr (.inr (.inl p3)))] at hR8
                      subst hR8
                      have m3 : decide ((60 : Int) < (lo : Int)) = true := decide_eq_true (by omega)
                      have m3' : decide (60 < lo) = true := decide_eq_true p3
                      clear p1 p2
                      go_upto_if 148 with fail
                      go_wp2_with (first | (refine wpList_load_box HN6.out.b 0 (Nd.cells ({ op := 7, mn := lo, mx := mx, lz := lz }) (.slice none 0 0)) rfl 195 (.tmp 7) rfl rfl rfl dT hT1 hT2 sizeNd2 ?_) | (refine wpList_store_box HN6.out.a 0 (Nd.cells ({ op := 7, mn := lo, mx := mx, lz := lz }) (.slice none 0 0)) rfl 195 (.tmp 4) (.tmp 149) rfl rfl rfl (Nat.le_refl 11) sizeNd2 (oneNd2 _) rfl ?_; intro wz lz' fz sz; have HZ : Hid (Lc 195 n (Nd.cells ({ op := 7, mn := lo, mx := mx, lz := lz }) (.slice none 0 0)) wz ∧ Kp w wz) := ⟨lz', kp_on HN6.out.kp fz (by rw [HN6.out.eq]; exact Nat.le_refl _)⟩; clear lz' fz sz))
                      exact bodyPost_ret (results_box3 rfl rfl HZ.out.1 hT1 hT2 sizeNd2) rfl ⟨HZ.out.2, ({ op := 7, mn := lo, mx := mx, lz := lz } : Nd), rfl⟩
                    have m3 : decide ((60 : Int) < (lo : Int)) = false := decide_eq_false (by omega)
                    have m3' : decide (60 < lo) = false := decide_eq_false p3
                    by_cases p4 : 60 < mx
                    · rw [if_pos (.inr (.inr (.inr (.inl p4))))] at hR8
                      subst hR8
                      have m4 : decide ((60 : Int) < mx) = true := decide_eq_true p4
                      clear p1 p2 p3
                      go_upto_if 148 with fail
                      go_wp2_with (first | (refine wpList_load_box HN6.out.b 0 (Nd.cells ({ op := 7, mn := lo, mx := mx, lz := lz }) (.slice none 0 0)) rfl 195 (.tmp 7) rfl rfl rfl dT hT1 hT2 sizeNd2 ?_) | (refine wpList_store_box HN6.out.a 0 (Nd.cells ({ op := 7, mn := lo, mx := mx, lz := lz }) (.slice none 0 0)) rfl 195 (.tmp 4) (.tmp 149) rfl rfl rfl (Nat.le_refl 11) sizeNd2 (oneNd2 _) rfl ?_; intro wz lz' fz sz; have HZ : Hid (Lc 195 n (Nd.cells ({ op := 7, mn := lo, mx := mx, lz := lz }) (.slice none 0 0)) wz ∧ Kp w wz) := ⟨lz', kp_on HN6.out.kp fz (by rw [HN6.out.eq]; exact Nat.le_refl _)⟩; clear lz' fz sz))
                      exact bodyPost_ret (results_box3 rfl rfl HZ.out.1 hT1 hT2 sizeNd2) rfl ⟨HZ.out.2, ({ op := 7, mn := lo, mx := mx, lz := lz } : Nd), rfl⟩
                    have m4 : decide ((60 : Int) < mx) = false := decide_eq_false p4
                    by_cases p5 : 0 ≤ mx
                    · have m5 : decide ((0 : Int) ≤ mx) = true := decide_eq_true p5
                      by_cases p6 : mx < lo
                      · rw [if_pos (.inr (.inr (.inr (.inr ⟨p5, p6⟩))))] at hR8
                        subst hR8
                        have m6 : decide (mx < (lo : Int)) = true := decide_eq_true p6
                        clear p1 p2 p3 p4
                        go_upto_if 148 with fail
                        go_wp2_with (first | (refine wpList_load_box HN6.out.b 0 (Nd.cells ({ op := 7, mn := lo, mx := mx, lz := lz }) (.slice none 0 0)) rfl 195 (.tmp 7) rfl rfl rfl dT hT1 hT2 sizeNd2 ?_) | (refine wpList_store_box HN6.out.a 0 (Nd.cells ({ op := 7, mn := lo, mx := mx, lz := lz }) (.slice none 0 0)) rfl 195 (.tmp 4) (.tmp 149) rfl rfl rfl (Nat.le_refl 11) sizeNd2 (oneNd2 _) rfl ?_; intro wz lz' fz sz; have HZ : Hid (Lc 195 n (Nd.cells ({ op := 7, mn := lo, mx := mx, lz := lz }) (.slice none 0 0)) wz ∧ Kp w wz) := ⟨lz', kp_on HN6.out.kp fz (by rw [HN6.out.eq]; exact Nat.le_refl _)⟩; clear lz' fz sz))
                        exact bodyPost_ret (results_box3 rfl rfl HZ.out.1 hT1 hT2 sizeNd2) rfl ⟨HZ.out.2, ({ op := 7, mn := lo, mx := mx, lz := lz } : Nd), rfl⟩
                      · rw [if_neg (by omega)] at hR8
                        subst hR8
                        have m6 : decide (mx < (lo : Int)) = false := decide_eq_false p6
                        clear p1 p2 p3 p4
                        go_upto_if 148 with fail
                        go_wp2_with (first | (refine wpList_load_box HN6.out.b 0 (Nd.cells ({ op := 7, mn := lo, mx := mx, lz := lz }) (.slice none 0 0)) rfl 195 (.tmp 7) rfl rfl rfl dT hT1 hT2 sizeNd2 ?_) | (refine wpList_store_box HN6.out.a 0 (Nd.cells ({ op := 7, mn := lo, mx := mx, lz := lz }) (.slice none 0 0)) rfl 195 (.tmp 4) (.tmp 150) rfl rfl rfl (Nat.le_refl 11) sizeNd2 (oneNd2 _) rfl ?_; intro wz lz' fz sz; have HZ : Hid (Lc 195 n (Nd.cells ({ op := 7, mn := lo, mx := mx, lz := lz }) (.slice none 0 0)) wz ∧ Kp w wz) := ⟨lz', kp_on HN6.out.kp fz (by rw [HN6.out.eq]; exact Nat.le_refl _)⟩; clear lz' fz sz))
                        exact bodyPost_ret (results_box3 rfl rfl HZ.out.1 hT1 hT2 sizeNd2) rfl ⟨HZ.out.2, rfl⟩
                    · have m5 : decide ((0 : Int) ≤ mx) = false := decide_eq_false p5
                      rw [if_neg (by omega)] at hR8
                      subst hR8
                      clear p1 p2 p3 p4
                      go_upto_if 148 with fail
                      go_wp2_with (first | (refine wpList_load_box HN6.out.b 0 (Nd.cells ({ op := 7, mn := lo, mx := mx, lz := lz }) (.slice none 0 0)) rfl 195 (.tmp 7) rfl rfl rfl dT hT1 hT2 sizeNd2 ?_) | (refine wpList_store_box HN6.out.a 0 (Nd.cells ({ op := 7, mn := lo, mx := mx, lz := lz }) (.slice none 0 0)) rfl 195 (.tmp 4) (.tmp 150) rfl rfl rfl (Nat.le_refl 11) sizeNd2 (oneNd2 _) rfl ?_; intro wz lz' fz sz; have HZ : Hid (Lc 195 n (Nd.cells ({ op := 7, mn := lo, mx := mx, lz := lz }) (.slice none 0 0)) wz ∧ Kp w wz) := ⟨lz', kp_on HN6.out.kp fz (by rw [HN6.out.eq]; exact Nat.le_refl _)⟩; clear lz' fz sz))
                      exact bodyPost_ret (results_box3 rfl rfl HZ.out.1 hT1 hT2 sizeNd2) rfl ⟨HZ.out.2, rfl⟩
end
end Go.Proofs.YtalmajiflmejcaaGreat
/- The document's reader: a branch under way; piece. -/
namespace Go.Proofs.YtalmajiflmejcaaGreat
open Go.ChangeShapes Go.WideShapes Go.ChangeAt Go.RowKit
set_option linter.unusedVariables false
set_option linter.unusedSimpArgs false
/-- A branch in memory: its box, its pieces. -/
structure Bb (B rb bb : Nat) (vn : Qv) (kv : Value) (b : Bs) (w : World) : Prop where
  ge : B ≤ bb
  box : Lc 221 bb [kv, .bool b.may] w
  row : KRow B w kv b.ks
  off : Off rb vn kv
  bo : (bb ≠ rb ∧ vn.ownBlock ≠ some bb) ∧ ¬ vn.kb bb
  ob : kv.ownBlock ≠ some bb
/-- From w to w' nothing has turned but the reader's own, the branch's box and its pieces. -/
structure AdvB (rb bb : Nat) (vn : Qv) (kv : Value) (w : World) (vn' : Qv) (kv' : Value) (w' : World) : Prop where
  fr : Fr (fun k => Rb rb vn k ∨ k = bb ∨ kv.ownBlock = some k) w w'
  own : vn'.ownBlock = vn.ownBlock ∨ ∀ j, vn'.ownBlock = some j → w.heap.size ≤ j
  kbs : ∀ j, j < w.heap.size → vn'.kb j → vn.kb j
  lin : kv'.ownBlock = kv.ownBlock ∨ ∀ j, kv'.ownBlock = some j → w.heap.size ≤ j
section
variable {B rb bb : Nat} {s last : ByteArray} {r r' : FS} {vn vn1 vn2 : Qv} {kv kv1 kv2 : Value} {b : Bs} {w w1 w2 : World}
theorem AdvB.refl (rb bb : Nat) (vn : Qv) (kv : Value) (w : World) : AdvB rb bb vn kv w vn kv w := ⟨Fr.refl _ _, .inl rfl, fun _ _ h => h, .inl rfl⟩
theorem AdvB.trans (h : AdvB rb bb vn kv w vn1 kv1 w1) (h' : AdvB rb bb vn1 kv1 w1 vn2 kv2 w2) : AdvB rb bb vn kv w vn2 kv2 w2 := by
  refine ⟨h.fr.trans' h'.fr fun k hk hq => ?_, ?_, fun j hj hq => h.kbs j hj (h'.kbs j (Nat.lt_of_lt_of_le hj h.fr.size) hq), ?_⟩
  · rcases hq with (hq | hq) | hq | hq
    · exact .inl (.inl hq)
    · rcases h.own with e | e
      · exact .inl (.inr (by rw [← e]; exact hq))
      · exact absurd (e k hq) (by omega)
    · exact .inr (.inl hq)
    · rcases h.lin with e | e
      · exact .inr (.inr (by rw [← e]; exact hq))
      · exact absurd (e k hq) (by omega)
  · rcases h'.own with e | e
    · rw [e]; exact h.own
    · exact .inr fun j hj => Nat.le_trans h.fr.size (e j hj)
  · rcases h'.lin with e | e
    · rw [e]; exact h.lin
    · exact .inr fun j hj => Nat.le_trans h.fr.size (e j hj)
/-- A call that leaves the branch alone. -/
theorem AdvB.of (a : Adv rb vn w vn1 w1) (bb : Nat) (kv : Value) : AdvB rb bb vn kv w vn1 kv w1 :=
  ⟨a.fr.mono fun _ _ q => .inl q, a.own, fun j hj hq => (a.kbs j hj hq).elim id fun z => (by cases z), .inl rfl⟩
theorem Bb.adv (h : Bb B rb bb vn kv b w) (a : Adv rb vn w vn1 w1) : Bb B rb bb vn1 kv b w1 := by
  obtain ⟨q1, q2⟩ := row_adv h.row h.off a
  have hl := h.box.lt
  refine ⟨h.ge, h.box.fr a.fr (fun q => ?_), q1, q2, ⟨⟨h.bo.1.1, ?_⟩, fun q => ?_⟩, h.ob⟩
  · rcases q with q | q
    · exact h.bo.1.1 q
    · exact h.bo.1.2 q
  · rcases a.own with e | e
    · rw [e]; exact h.bo.1.2
    · intro z; have := e _ z; omega
  · rcases a.kbs _ hl q with q | q
    · exact h.bo.2 q
    · cases q
theorem Bb.kp (h : Bb B rb bb vn kv b w) (k : Kp w w1) : Bb B rb bb vn kv b w1 := h.adv (Adv.kp vn rb k)
theorem Bb.lt (h : Bb B rb bb vn kv b w) : bb < w.heap.size := h.box.lt
/-- The branch's box has turned. -/
theorem Bb.cells (h : Bb B rb bb vn kv b w) : w.cell? ⟨bb, 0, none⟩ = some kv ∧ w.cell? ⟨bb, 1, none⟩ = some (.bool b.may) ∧ w.frozen? ⟨bb, 0, none⟩ = false ∧ w.frozen? ⟨bb, 1, none⟩ = false := ⟨h.box.at rfl, h.box.at rfl, h.box.fz 0, h.box.fz 1⟩
/-- A piece more: what is to be shown behind the append. -/
theorem Bb.grow (h : Bb B rb bb vn kv b w) (hr : Fq B rb s last r vn w) {i L : Nat} (hL : b.ks.length = L) (k : Kp w w1) {g cap : Nat}
    (hown : w2.ownsRow B 3 1 (.slice (some ⟨g, 0, none⟩) (L + 1) cap) (L + 1) (nums b.ks ++ [.int .i64 i])) (hg : w1.grownBy w2 kv.ownBlock) (hat : kv.ownBlock = some g ∨ g = w1.heap.size) (hlt : g < w2.heap.size) (m : Bool) :
    (w2.cell? ⟨bb, 0, none⟩ = some kv ∧ w2.cell? ⟨bb, 1, none⟩ = some (.bool b.may) ∧ w2.frozen? ⟨bb, 0, none⟩ = false ∧ w2.frozen? ⟨bb, 1, none⟩ = false) ∧ Fq B rb s last r vn ((w2.setCell ⟨bb, 0, none⟩ (.slice (some ⟨g, 0, none⟩) (L + 1) cap)).setCell ⟨bb, 1, none⟩ (.bool m)) ∧
      Bb B rb bb vn (.slice (some ⟨g, 0, none⟩) (L + 1) cap) (pieceF b i m) ((w2.setCell ⟨bb, 0, none⟩ (.slice (some ⟨g, 0, none⟩) (L + 1) cap)).setCell ⟨bb, 1, none⟩ (.bool m)) ∧
      AdvB rb bb vn kv w vn (.slice (some ⟨g, 0, none⟩) (L + 1) cap) ((w2.setCell ⟨bb, 0, none⟩ (.slice (some ⟨g, 0, none⟩) (L + 1) cap)).setCell ⟨bb, 1, none⟩ (.bool m)) := by
  have hbl := h.lt
  have hb1 : bb < w1.heap.size := Nat.lt_of_lt_of_le hbl k.size
  have hgb : g ≠ bb := by
    rcases hat with e | e
    · exact fun q => h.ob (by rw [e, q])
    · omega
  have hbox : Lc 221 bb [kv, .bool b.may] w2 := h.box.heap (by rw [hg.block bb hb1 (fun e => h.ob e.symm)]; exact k.block bb hbl)
  have f1 : Fr (fun j => j = bb ∨ kv.ownBlock = some j) w w2 := ⟨hg.os.trans k.os, hg.tape.trans k.tape, hg.output.trans k.output, Nat.le_trans k.size hg.size, fun j hj hn => by
    rw [hg.block j (Nat.lt_of_lt_of_le hj k.size) (fun e => hn (.inr e.symm))]; exact k.block j hj⟩
  have f2 : Fr (fun j => j = bb ∨ kv.ownBlock = some j) w ((w2.setCell ⟨bb, 0, none⟩ (.slice (some ⟨g, 0, none⟩) (L + 1) cap)).setCell ⟨bb, 1, none⟩ (.bool m)) :=
    (f1.trans (Fr.setCell (.inl rfl) w2)).trans (Fr.setCell (.inl rfl) _)
  refine ⟨⟨hbox.at rfl, hbox.at rfl, hbox.fz 0, hbox.fz 1⟩, hr.off (fun j hj => ?_) f2, ⟨h.ge, ((hbox.set 0 _).set 1 _), ?_, ?_, h.bo, ?_⟩, ⟨f2.mono fun j _ q => .inr q, .inl rfl, fun _ _ q => q, ?_⟩⟩
  · rcases hj with rfl | hj
    · exact h.bo
    · exact h.off j hj
  · unfold KRow
    have hl' : (pieceF b i m).ks.length = L + 1 := by simp [pieceF, hL]
    rw [hl', show nums (pieceF b i m).ks = nums b.ks ++ [.int .i64 i] by simp [pieceF, nums]]
    refine ⟨hown.1, ?_⟩
    rcases hown.2 with ⟨q, _⟩ | ⟨c, cp, cur, e, hb, hq, rest⟩
    · cases q
    · refine .inr ⟨c, cp, cur, e, hb, ?_, rest⟩
      injection e with e _ _
      injection e with e
      injection e with e _ _
      rw [heap_setCell_other (by rw [← e]; exact hgb), heap_setCell_other (by rw [← e]; exact hgb)]; exact hq
  · intro j hj
    simp only [Value.ownBlock, Option.some.injEq] at hj
    subst hj
    rcases hat with e | e
    · exact h.off g e
    · have hrl := hr.lt
      have hsz := k.size
      refine ⟨⟨by omega, fun q => ?_⟩, fun q => ?_⟩
      · have := (hr.own g q).2; omega
      · have := hr.kbl g q; omega
  · simp only [Value.ownBlock, ne_eq, Option.some.injEq]; exact hgb
  · rcases hat with e | e
    · exact .inl (by rw [e]; rfl)
    · exact .inr fun j hj => by
        simp only [Value.ownBlock, Option.some.injEq] at hj
        rw [← hj, e]; exact k.size
/-- What a call that turns a branch comes to. -/
def RetB (B rb bb : Nat) (s last : ByteArray) (vn : Qv) (kv : Value) (w : World) (R : FS × Bs) (e : Ending) (w' : World) : Prop :=
  e = .returned (.tuple #[]) ∧ ∃ vn' kv', Fq B rb s last R.1 vn' w' ∧ Bb B rb bb vn' kv' R.2 w' ∧ AdvB rb bb vn kv w vn' kv' w'
set_option maxHeartbeats 1000000 in
set_option maxRecDepth 100000 in
theorem piece_any (h : Fq B rb s last r vn w) (hb : Bb B rb bb vn kv b w) (hl : b.ks.length < 50000) (i : Nat) (m : Bool) :
    Calls Tryz.prog 141 #[.pointer (some ⟨rb, 0, none⟩), .pointer (some ⟨bb, 0, none⟩), .int .i64 i, .bool m] w (RetB B rb bb s last vn kv w (r, pieceF b i m)) := by
  obtain ⟨va, vc, rfl, v1, v2⟩ := owns_form hb.row
  obtain ⟨L, hL⟩ : ∃ L, b.ks.length = L := ⟨_, rfl⟩
  rw [hL] at hb hl v1 ⊢
  obtain ⟨i9, hi9, z0, z1, z2⟩ := info_parts infoInt
  obtain ⟨e0, e1, f0, f1⟩ := hb.cells
  have hbl := hb.lt
  have HOW : Hid ((w.alloc (.cells #[.int .i64 i] 3)).ownsRow B 3 1 (.slice va L vc) L (nums b.ks)) := by have := row_kp hb.row (kp_alloc w (.cells #[.int .i64 i] 3)); rw [hL] at this; exact this
  have HNEW : Hid (∀ j u, ([.int .i64 i] : List Value)[j]? = some u → (w.alloc (.cells #[.int .i64 i] 3)).cell? ((⟨w.heap.size, 0, none⟩ : Addr).add j) = some u) := by
    intro j u hj
    rw [Addr.add_lit, cell_at (alloc_new w _), Nat.zero_add, ← hj]; exact List.getElem?_toArray
  have HONE : Hid (∀ u ∈ ([.int .i64 i] : List Value), u.oneCell' = true) := by intro u hu; simp only [List.mem_singleton] at hu; subst hu; rfl
  have HSZ : Hid ((w.alloc (.cells #[.int .i64 i] 3)).heap.size = w.heap.size + 1) := alloc_size _ _
  have HBW : Hid (B ≤ (w.alloc (.cells #[.int .i64 i] 3)).heap.size) := by have := h.hB; have := HSZ.out; show B ≤ _; omega
  have HG : Hid (∀ g cap w2, w2.ownsRow B 3 1 (.slice (some ⟨g, 0, none⟩) (L + 1) cap) (L + 1) (nums b.ks ++ [.int .i64 i]) → (w.alloc (.cells #[.int .i64 i] 3)).grownBy w2 (Value.slice va L vc).ownBlock → ((Value.slice va L vc).ownBlock = some g ∨ g = (w.alloc (.cells #[.int .i64 i] 3)).heap.size) → g < w2.heap.size → _) := fun g cap w2 q1 q2 q3 q4 => hb.grow h hL (kp_alloc w _) q1 q2 q3 q4 m
  unfold maxLen at v2
  clear h hb hL
  go_enter Tryz.func141, Tryz.ntmps141
  go_wp2_with (at_builtin; refine wpList_append_lies _ rfl (.tmp 12) (.tmp 14) 47 rfl B 3 i9 _ 1 8 Tryz.underlying47 hi9 z0 z1 z2 rfl (by decide) (.slice va L vc) L (nums b.ks) rfl HOW.out ⟨w.heap.size, 0, none⟩ 1 1 [.int .i64 i] rfl rfl HNEW.out HONE.out (by omega) (by unfold maxLen; omega) (by omega) HBW.out (w.heap.size + 1) HSZ.out ?_; intro g cp w2 hown hgrow hat hlt; obtain ⟨⟨q0, q1, q2, q3⟩, HF'⟩ := HG.out g cp w2 hown hgrow (by rw [HSZ.out]; exact hat) hlt; have HF : Hid _ := HF'; clear HF' hown hgrow hat)
  go_end0
  exact ⟨rfl, vn, _, HF.out⟩
end
end Go.Proofs.YtalmajiflmejcaaGreat
/- The document's reader: last. -/
namespace Go.Proofs.YtalmajiflmejcaaGreat
open Go.ChangeShapes Go.WideShapes Go.ChangeAt Go.RowKit
set_option linter.unusedVariables false
set_option linter.unusedSimpArgs false
section
variable {B rb : Nat} {s last : ByteArray} {r r' : FS} {vn vn1 vn2 : Qv} {v v2 : Value} {ks ks2 : List Nat} {w w1 w2 x y : World}
/-- A list of numbers under way: the reader, and the list, new since w. -/
structure Lw (B rb : Nat) (s last : ByteArray) (vn : Qv) (w : World) (r' : FS) (vn' : Qv) (v : Value) (ks : List Nat) (x : World) : Prop where
  rr : Fq B rb s last r' vn' x
  row : KRow B x v ks
  off : Off rb vn' v
  adv : Adv rb vn w vn' x
  new : ∀ j, v.ownBlock = some j → w.heap.size ≤ j
theorem Lw.start (h : Fq B rb s last r vn w) : Lw B rb s last vn w r vn (.slice none 0 0) [] w :=
  ⟨h, leaf_row B _, fun j hj => by simp [Value.ownBlock] at hj, Adv.refl _ _ _, fun j hj => by simp [Value.ownBlock] at hj⟩
theorem Lw.step (h : Lw B rb s last vn w r vn1 v ks x) (hr : Fq B rb s last r' vn2 y) (a : Adv rb vn1 x vn2 y) : Lw B rb s last vn w r' vn2 v ks y := by
  obtain ⟨q1, q2⟩ := row_adv h.row h.off a
  exact ⟨hr, q1, q2, h.adv.trans a, h.new⟩
theorem Lw.kp (h : Lw B rb s last vn w r vn1 v ks x) (k : Kp x y) : Lw B rb s last vn w r vn1 v ks y := h.step (h.rr.kp k) (Adv.kp vn1 rb k)
theorem Lw.done (h : Lw B rb s last vn w r vn1 v ks x) (a : AdvX v.ownBlock rb vn1 x vn2 y) : Adv rb vn w vn2 y := by
  have a2 := AdvX.trans h.adv a
  exact ⟨a2.fr, a2.own, fun j hj hq => (a2.kbs j hj hq).elim .inl fun z => by have := h.new j z; omega⟩
/-- A number more. -/
theorem Lw.snoc (h : Lw B rb s last vn w r vn1 v ks x) {i L : Nat} (hL : ks.length = L) (k : Kp x w1) {g cap : Nat}
    (hown : w2.ownsRow B 3 1 (.slice (some ⟨g, 0, none⟩) (L + 1) cap) (L + 1) (nums ks ++ [.int .i64 i])) (hg : w1.grownBy w2 v.ownBlock) (hat : v.ownBlock = some g ∨ g = w1.heap.size) :
    Lw B rb s last vn w r vn1 (.slice (some ⟨g, 0, none⟩) (L + 1) cap) (ks ++ [i]) w2 := by
  have f1 : Fr (fun j => v.ownBlock = some j) x w2 := ⟨hg.os.trans k.os, hg.tape.trans k.tape, hg.output.trans k.output, Nat.le_trans k.size hg.size, fun j hj hn => by
    rw [hg.block j (Nat.lt_of_lt_of_le hj k.size) (fun e => hn e.symm)]; exact k.block j hj⟩
  refine ⟨h.rr.off (fun j hj => h.off j hj) f1, ?_, ?_, ⟨h.adv.fr.trans' f1 fun j hj q => by have := h.new j q; omega, h.adv.own, h.adv.kbs⟩, ?_⟩
  · unfold KRow
    rw [show (ks ++ [i]).length = L + 1 by simp [hL], show nums (ks ++ [i]) = nums ks ++ [.int .i64 i] by simp [nums]]
    exact hown
  · intro j hj
    simp only [Value.ownBlock, Option.some.injEq] at hj
    subst hj
    rcases hat with e | e
    · exact h.off g e
    · have hrl := h.rr.lt
      have hsz := k.size
      refine ⟨⟨by omega, fun q => ?_⟩, fun q => ?_⟩
      · have := (h.rr.own g q).2; omega
      · have := h.rr.kbl g q; omega
  · intro j hj
    simp only [Value.ownBlock, Option.some.injEq] at hj
    subst hj
    rcases hat with e | e
    · exact h.new g e
    · rw [e]; exact Nat.le_trans h.adv.fr.size k.size
theorem nodeF_len (d : Nd) (r : FS) : (nodeF d r).2.nds.length ≤ max r.nds.length 401 := by
  unfold nodeF
  split
  · exact Nat.le_max_left _ _
  · simp; omega
theorem lastL_drop (l : ByteArray) (j : Nat) (hj : j < l.size) (r : FS) (ks : List Nat) : lastL ((l.data.toList.drop j).map (·.toNat)) r ks = lastL ((l.data.toList.drop (j + 1)).map (·.toNat)) (nodeF { op := 2, c := (l[j]).toNat } r).2 (ks ++ [(nodeF { op := 2, c := (l[j]).toNat } r).1]) := by
  rw [List.drop_eq_getElem_cons (by rw [← Lib.size_eq]; omega), List.map_cons, lastL]
  rfl
set_option maxHeartbeats 4000000 in
set_option maxRecDepth 100000 in
theorem last_any (h : Fq B rb s last r vn w) (hl : last.size ≤ 1000) :
    Calls Tryz.prog 165 #[.pointer (some ⟨rb, 0, none⟩)] w (FAdd B rb s last (lastF last r) vn none w) := by
  unfold lastF
  obtain ⟨R, hR⟩ : ∃ R, lastL (last.data.toList.map (·.toNat)) r [] = R := ⟨_, rfl⟩
  rw [hR]
  have H0 : Hid (Fq B rb s last r vn w ∧ lastL (last.data.toList.map (·.toNat)) r [] = R) := ⟨h, hR⟩
  clear h hR
  obtain ⟨i9, hi9, z0, z1, z2⟩ := info_parts infoInt
  go_enter Tryz.func165, Tryz.ntmps165
  go_wp2_with fail
  go_loopw [3, 4] (fun v3 v4 wr => ∃ (j : Nat) (r1 : FS) (vn1 : Qv) (ks : List Nat), v4 = .int .i64 j ∧ j ≤ last.size ∧ ks.length = j ∧ lastL ((last.data.toList.drop j).map (·.toNat)) r1 ks = R ∧ Lw B rb s last vn w r1 vn1 v3 ks wr) (fun _ v4 _ => last.size - (intOf v4).toNat)
  case atStart => exact ⟨0, r, vn, [], rfl, Nat.zero_le _, rfl, by rw [List.drop_zero]; exact H0.out.2, Lw.start H0.out.1⟩
  case round =>
    obtain ⟨j, r1, vn1, ks, rfl, g1, g2, g3, g4⟩ := hrel
    obtain ⟨va, vc, hv, v1, v2⟩ := owns_form g4.row
    subst hv
    have c20 := g4.rr.c20
    rw [g2] at g4 v1 ⊢
    have HL : Hid (ks.length = j) := g2
    have H1 : Hid (Lw B rb s last vn w r1 vn1 (.slice va j vc) ks wr) := g4
    unfold maxLen at v2
    clear g2 g4
    by_cases hlt : j < last.size
    · have k1 : decide ((j : Int) < (last.size : Int)) = true := decide_eq_true (by omega)
      have k1' : decide (j < last.size) = true := decide_eq_true hlt
      rw [lastL_drop last j hlt] at g3
      obtain ⟨C, hC⟩ : ∃ C, (last[j]).toNat = C := ⟨_, rfl⟩
      rw [hC] at g3
      have HN : Hid (Calls Tryz.prog 142 #[.pointer (some ⟨rb, 0, none⟩), .agg #[.int .u8 2, .int .u8 C, .int .u64 0, .int .u64 0, .int .u64 0, .int .u64 0, .int .i64 0, .int .i64 0, .bool false, .int .i64 0, .slice none 0 0]] wr (FAdd B rb s last (nodeF { op := 2, c := C } r1) vn1 none wr)) := fleaf H1.out.rr { op := 2, c := C } rfl
      obtain ⟨⟨ni, r2⟩, hn⟩ : ∃ N, nodeF { op := 2, c := C } r1 = N := ⟨_, rfl⟩
      rw [hn] at g3 HN
      have HG : Hid (lastL ((last.data.toList.drop (j + 1)).map (·.toNat)) r2 (ks ++ [ni]) = R) := g3
      clear g3 hn H0
      go_wp2_with (first | (go_at_call 142; refine Calls.mono HN.out ?_; rintro e w4 ⟨rfl, vn2, q1, q2⟩; have H5 : Hid (Lw B rb s last vn w r2 vn2 (.slice va j vc) ks w4) := H1.out.step q1 q2; clear q1 q2; have HOW : Hid ((w4.alloc (.cells #[.int .i64 ni] 3)).ownsRow B 3 1 (.slice va j vc) j (nums ks)) := (by have := row_kp H5.out.row (kp_alloc w4 (.cells #[.int .i64 ni] 3)); rw [HL.out] at this; exact this); have HNEW : Hid (∀ p u, ([.int .i64 ni] : List Value)[p]? = some u → (w4.alloc (.cells #[.int .i64 ni] 3)).cell? ((⟨w4.heap.size, 0, none⟩ : Addr).add p) = some u) := (by intro p u hp; rw [Addr.add_lit, cell_at (alloc_new w4 _), Nat.zero_add, ← hp]; exact List.getElem?_toArray); have HONE : Hid (∀ u ∈ ([.int .i64 ni] : List Value), u.oneCell' = true) := (by intro u hu; simp only [List.mem_singleton] at hu; subst hu; rfl); have HSZ : Hid ((w4.alloc (.cells #[.int .i64 ni] 3)).heap.size = w4.heap.size + 1) := alloc_size _ _; have HBW : Hid (B ≤ (w4.alloc (.cells #[.int .i64 ni] 3)).heap.size) := (by have := H5.out.rr.hB; have := HSZ.out; show B ≤ _; omega)) | (at_builtin; refine wpList_append_lies _ rfl (.tmp 14) (.tmp 24) 47 rfl B 3 i9 _ 1 8 Tryz.underlying47 hi9 z0 z1 z2 rfl (by decide) (.slice va j vc) j (nums ks) rfl HOW.out ⟨w4.heap.size, 0, none⟩ 1 1 [.int .i64 ni] rfl rfl HNEW.out HONE.out (by omega) (by unfold maxLen; omega) (by omega) HBW.out (w4.heap.size + 1) HSZ.out ?_; intro g cp w5 hown hgrow hat hlt2; have HF : Hid (Lw B rb s last vn w r2 vn2 (.slice (some ⟨g, 0, none⟩) (j + 1) cp) (ks ++ [ni]) w5) := H5.out.snoc HL.out (kp_alloc w4 _) hown hgrow (by rw [HSZ.out]; exact hat); clear hown hgrow hat hlt2))
      go_roundw
      case rel => exact ⟨j + 1, r2, vn2, ks ++ [ni], by go_num, by omega, by simp [HL.out], HG.out, HF.out⟩
      case measure => simp [intOf]; omega
    · have k1 : decide ((j : Int) < (last.size : Int)) = false := decide_eq_false (by omega)
      have k1' : decide (j < last.size) = false := decide_eq_false hlt
      have hRe : R = (r1, ks) := by rw [← g3, List.drop_eq_nil_of_le (by rw [← Lib.size_eq]; omega)]; rfl
      have HW : Hid (Calls Tryz.prog 114 #[.pointer (some ⟨rb, 0, none⟩), .int .u8 5, .slice va j vc] wr (FAdd B rb s last (rowF 5 R.2 R.1) vn1 (Value.slice va j vc).ownBlock wr)) := by
        rw [hRe]
        exact frow_any H1.out.rr 5 H1.out.row H1.out.off.k (by rw [HL.out]; omega)
      clear g3 hRe H0
      generalize rowF 5 R.2 R.1 = RR at *
      go_wp2_with fail
      refine Calls.mono HW.out ?_
      rintro e w4 ⟨rfl, vn2, q1, q2⟩
      have H5 : Hid (Fq B rb s last RR.2 vn2 w4 ∧ Adv rb vn w vn2 w4) := ⟨q1, H1.out.done q2⟩
      clear q1 q2
      go_wp2_with fail
      go_ret
      exact ⟨rfl, vn2, H5.out.1, H5.out.2⟩
end
end Go.Proofs.YtalmajiflmejcaaGreat
/- The document's reader: many. -/
namespace Go.Proofs.YtalmajiflmejcaaGreat
open Go.ChangeShapes Go.WideShapes Go.ChangeAt Go.RowKit
set_option linter.unusedVariables false
set_option linter.unusedSimpArgs false
section
variable {B rb bb : Nat} {s last : ByteArray} {r r' : FS} {vn vn1 vn2 : Qv} {kv kv1 kv2 : Value} {b : Bs} {w w1 w2 : World}
/-- The reader and the branch, some new box beside them. -/
structure My (B rb bb : Nat) (s last : ByteArray) (r : FS) (vn : Qv) (kv : Value) (b : Bs) (w x : World) : Prop where
  rr : Fq B rb s last r vn x
  br : Bb B rb bb vn kv b x
  adv : Adv rb vn w vn x
theorem My.kp (h : My B rb bb s last r vn kv b w w1) (k : Kp w1 w2) : My B rb bb s last r vn kv b w w2 := ⟨h.rr.kp k, h.br.kp k, h.adv.trans (Adv.kp vn rb k)⟩
theorem My.start (h : Fq B rb s last r vn w) (hb : Bb B rb bb vn kv b w) : My B rb bb s last r vn kv b w w := ⟨h, hb, Adv.refl _ _ _⟩
/-- A box that is new has turned. -/
theorem My.new (h : My B rb bb s last r vn kv b w w1) {m : Nat} (f : Fr (On m) w1 w2) (hm : w.heap.size ≤ m) (h0 : Fq B rb s last r vn w) (hb : Bb B rb bb vn kv b w) : My B rb bb s last r vn kv b w w2 := by
  have hlr := h0.lt
  have hlb := hb.lt
  have ho : (m ≠ rb ∧ vn.ownBlock ≠ some m) ∧ ¬ vn.kb m := ⟨⟨by omega, fun q => by have := (h0.own m q).2; omega⟩, fun q => by have := h0.kbl m q; omega⟩
  refine ⟨h.rr.off (P := On m) (fun j hj => by unfold On at hj; subst hj; exact ho) f, ?_, ⟨h.adv.fr.trans' f fun j hj q => by unfold On at q; omega, h.adv.own, h.adv.kbs⟩⟩
  have hkl : ∀ j, kv.ownBlock = some j → j < w.heap.size := fun j hj => (hb.row.lt j hj).2
  refine ⟨h.br.ge, h.br.box.fr f (by unfold On; omega), ?_, h.br.off, h.br.bo, h.br.ob⟩
  have hr := h.br.row
  refine ⟨hr.1, ?_⟩
  rcases hr.2 with q | ⟨c, cap, cur, e, hc, hg, rest⟩
  · exact .inl q
  · refine .inr ⟨c, cap, cur, e, hc, ?_, rest⟩
    rw [f.block c (Array.getElem?_eq_some_iff.1 hg).1 (by have := hkl c (by rw [e]; rfl); unfold On; omega)]; exact hg
theorem many_star (h : Fq B rb s last r vn w) (hb : Bb B rb bb vn kv b w) (hl : b.ks.length < 50000) (hm : b.may = false) (at_ nx : Nat) :
    Calls Tryz.prog 168 #[.pointer (some ⟨rb, 0, none⟩), .pointer (some ⟨bb, 0, none⟩), .int .u8 42, .int .i64 at_, .int .i64 nx] w (RetB B rb bb s last vn kv w (mnyF s 42 at_ nx r b)) := by
  have e : mnyF s 42 at_ nx r b = ({ (putF { op := 2, c := 42 } true r b).1 with k := nx }, (putF { op := 2, c := 42 } true r b).2) := by
    unfold mnyF
    rw [if_pos hm, if_pos rfl]
  rw [e]
  unfold putF
  have H1 : Hid (∀ ob, My B rb bb s last r vn kv b w (w.alloc ob)) := fun ob => (My.start h hb).kp (kp_alloc w ob)
  have HN : Hid (∀ x, Fq B rb s last r vn x → Calls Tryz.prog 142 #[.pointer (some ⟨rb, 0, none⟩), .agg #[.int .u8 2, .int .u8 42, .int .u64 0, .int .u64 0, .int .u64 0, .int .u64 0, .int .i64 0, .int .i64 0, .bool false, .int .i64 0, .slice none 0 0]] x (FAdd B rb s last (nodeF { op := 2, c := 42 } r) vn none x)) := fun x hx => fleaf hx { op := 2, c := 42 } rfl
  obtain ⟨⟨ni, r2⟩, hn⟩ : ∃ N, nodeF { op := 2, c := 42 } r = N := ⟨_, rfl⟩
  rw [hn] at HN ⊢
  have hbl := hb.lt
  obtain ⟨ka, kc, hkv, _, _⟩ := owns_form hb.row
  have e1 : ∀ ob, (w.alloc ob).cell? ⟨bb, 1, none⟩ = some (.bool false) := fun ob => by have := (H1.out ob).br.cells.2.1; rw [hm] at this; exact this
  clear h hb e hn hkv
  go_enter Tryz.func168, Tryz.ntmps168
  go_upto_region 9 with fail
  go_wp2_with (first | (go_at_call 142; refine Calls.mono (HN.out _ (H1.out _).rr) ?_; rintro e w2 ⟨rfl, vn2, q1, q2⟩; have H2 : Hid (Fq B rb s last r2 vn2 w2 ∧ Bb B rb bb vn2 kv b w2 ∧ AdvB rb bb vn kv w vn2 kv w2) := ⟨q1, (H1.out _).br.adv q2, AdvB.of ((H1.out _).adv.trans q2) bb kv⟩; clear q1 q2) | (go_at_call 141; refine Calls.mono (piece_any H2.out.1 H2.out.2.1 hl _ _) ?_; rintro e w3 ⟨rfl, vn3, kv3, q1, q2, q3⟩; have H3 : Hid (Fq B rb s last r2 vn3 w3 ∧ Bb B rb bb vn3 kv3 (pieceF b ni true) w3 ∧ AdvB rb bb vn kv w vn3 kv3 w3) := ⟨q1, q2, H2.out.2.2.trans q3⟩; have c1 := q1.c1; have f1 := q1.fz 1; clear q1 q2 q3))
  have H4 : Hid (Fq B rb s last { r2 with k := nx } vn3 (w3.setCell ⟨rb, 1, none⟩ (.int .i64 nx)) ∧ Bb B rb bb vn3 kv3 (pieceF b ni true) (w3.setCell ⟨rb, 1, none⟩ (.int .i64 nx)) ∧ AdvB rb bb vn kv w vn3 kv3 (w3.setCell ⟨rb, 1, none⟩ (.int .i64 nx))) :=
    ⟨H3.out.1.setK nx, H3.out.2.1.adv (Adv.on vn3 (fr_set _ _ _ _)), H3.out.2.2.trans (AdvB.of (Adv.on vn3 (fr_set _ _ _ _)) bb kv3)⟩
  go_end0
  exact ⟨rfl, vn3, kv3, H4.out⟩
/-- The node of a sign that repeats. -/
def mnyN (sg : Nat) : Nd := { op := 7, mn := if sg = 43 then 1 else 0, mx := if sg = 61 ∨ sg = 63 then 1 else -1 }
/-- .. the reader, the branch and the node's box. -/
structure Mz (B rb bb m : Nat) (s last : ByteArray) (r : FS) (vn : Qv) (kv : Value) (b : Bs) (w : World) (d : Nd) (x : World) : Prop where
  my : My B rb bb s last r vn kv b w x
  box : Lc 195 m (d.cells (.slice none 0 0)) x
  eq : w.heap.size = m
theorem Mz.turn {m : Nat} {d d' : Nd} {x y : World} (h : Mz B rb bb m s last r vn kv b w d x) (h0 : Fq B rb s last r vn w) (hb : Bb B rb bb vn kv b w) (f : Fr (On m) x y) (hl : Lc 195 m (d'.cells (.slice none 0 0)) y) : Mz B rb bb m s last r vn kv b w d' y :=
  ⟨h.my.new f (by rw [h.eq]; exact Nat.le_refl _) h0 hb, hl, h.eq⟩
set_option maxHeartbeats 4000000 in
set_option maxRecDepth 100000 in
theorem many_err (h : Fq B rb s last r vn w) (hb : Bb B rb bb vn kv b w) (hm : b.may = false) {sg : Nat} (hsg : sg ≠ 42) (at_ nx : Nat) :
    Calls Tryz.prog 168 #[.pointer (some ⟨rb, 0, none⟩), .pointer (some ⟨bb, 0, none⟩), .int .u8 sg, .int .i64 at_, .int .i64 nx] w (RetB B rb bb s last vn kv w (mnyF s sg at_ nx r b)) := by
  have e : mnyF s sg at_ nx r b = (wrongF 32 at_ r, b) := by
    unfold mnyF
    rw [if_pos hm, if_neg hsg]
  rw [e]
  have H0 : Hid (Fq B rb s last r vn w ∧ Bb B rb bb vn kv b w) := ⟨h, hb⟩
  have HZ : Hid (Mz B rb bb w.heap.size s last r vn kv b w { op := 7, mx := -1 } (w.alloc (.cells (Nd.cells { op := 7, mx := -1 } (.slice none 0 0)).toArray 195))) := ⟨(My.start h hb).kp (kp_alloc _ _), Lc.new _ _ _, rfl⟩
  obtain ⟨m, hmm⟩ : ∃ m, w.heap.size = m := ⟨_, rfl⟩
  have k42 : ((sg : Int) == 42) = false := by simp; omega
  have HM : Hid (b.may = false) := hm
  clear h hb e hm hsg
  go_enter Tryz.func168, Tryz.ntmps168
  go_upto_region 1 with fail
  change Code.wp _ _ _ _ (w.alloc (.cells (Nd.cells { op := 7, mx := -1 } (.slice none 0 0)).toArray 195))
  rw [hmm] at HZ
  generalize w.alloc (.cells (Nd.cells { op := 7, mx := -1 } (.slice none 0 0)).toArray 195) = W1 at HZ ⊢
  clear hmm
  have b6 : W1.cell? ⟨m, 6, none⟩ = some (.int .i64 0) := HZ.out.box.at rfl
  have b7 : W1.cell? ⟨m, 7, none⟩ = some (.int .i64 (-1)) := HZ.out.box.at rfl
  have f6 := HZ.out.box.fz 6
  have f7 := HZ.out.box.fz 7
  by_cases s1 : sg = 43
  · have q1 : ((sg : Int) == 43) = true := by simp; omega
    have hd : mnyN sg = { op := 7, mn := 1, mx := -1 } := by unfold mnyN; rw [if_pos s1, if_neg (by omega)]
    have H2 : Hid (Mz B rb bb m s last r vn kv b w (mnyN sg) (W1.setCell ⟨m, 6, none⟩ (.int .i64 1))) := by rw [hd]; exact HZ.out.turn H0.out.1 H0.out.2 (fr_set _ _ _ _) (HZ.out.box.set 6 _)
    clear hd s1
    go_upto_region 7 with fail
    generalize (W1.setCell ⟨m, 6, none⟩ (.int .i64 1)) = wc at H2 ⊢
    clear HZ
    try clear b6 b7 f6 f7
    have e1 : wc.cell? ⟨bb, 1, none⟩ = some (.bool false) := by have := H2.out.my.br.cells.2.1; rw [HM.out] at this; exact this
    have HW : Hid _ := fwrong_any H2.out.my.rr 32 at_
    go_wp2_with fail
    refine Calls.mono HW.out ?_
    rintro e w3 ⟨rfl, q1, q2⟩
    have H4 : Hid (Fq B rb s last (wrongF 32 at_ r) vn w3 ∧ Bb B rb bb vn kv b w3 ∧ AdvB rb bb vn kv w vn kv w3) := ⟨q1, H2.out.my.br.adv (Adv.on vn q2), AdvB.of (H2.out.my.adv.trans (Adv.on vn q2)) bb kv⟩
    clear q1 q2
    go_wp2_with fail
    go_end0
    exact ⟨rfl, vn, kv, H4.out⟩
  have q1 : ((sg : Int) == 43) = false := by simp; omega
  by_cases s2 : sg = 61
  · have q2 : ((sg : Int) == 61) = true := by simp; omega
    have hd : mnyN sg = { op := 7, mn := 0, mx := 1 } := by unfold mnyN; rw [if_neg s1, if_pos (.inl s2)]
    have H2 : Hid (Mz B rb bb m s last r vn kv b w (mnyN sg) (W1.setCell ⟨m, 7, none⟩ (.int .i64 1))) := by rw [hd]; exact HZ.out.turn H0.out.1 H0.out.2 (fr_set _ _ _ _) (HZ.out.box.set 7 _)
    clear hd s1 s2
    go_upto_region 7 with fail
    generalize (W1.setCell ⟨m, 7, none⟩ (.int .i64 1)) = wc at H2 ⊢
    clear HZ
    try clear b6 b7 f6 f7
    have e1 : wc.cell? ⟨bb, 1, none⟩ = some (.bool false) := by have := H2.out.my.br.cells.2.1; rw [HM.out] at this; exact this
    have HW : Hid _ := fwrong_any H2.out.my.rr 32 at_
    go_wp2_with fail
    refine Calls.mono HW.out ?_
    rintro e w3 ⟨rfl, q1, q2⟩
    have H4 : Hid (Fq B rb s last (wrongF 32 at_ r) vn w3 ∧ Bb B rb bb vn kv b w3 ∧ AdvB rb bb vn kv w vn kv w3) := ⟨q1, H2.out.my.br.adv (Adv.on vn q2), AdvB.of (H2.out.my.adv.trans (Adv.on vn q2)) bb kv⟩
    clear q1 q2
    go_wp2_with fail
    go_end0
    exact ⟨rfl, vn, kv, H4.out⟩
  have q2 : ((sg : Int) == 61) = false := by simp; omega
  by_cases s3 : sg = 63
  · have q3 : ((sg : Int) == 63) = true := by simp; omega
    have hd : mnyN sg = { op := 7, mn := 0, mx := 1 } := by unfold mnyN; rw [if_neg s1, if_pos (.inr s3)]
    have H2 : Hid (Mz B rb bb m s last r vn kv b w (mnyN sg) (W1.setCell ⟨m, 7, none⟩ (.int .i64 1))) := by rw [hd]; exact HZ.out.turn H0.out.1 H0.out.2 (fr_set _ _ _ _) (HZ.out.box.set 7 _)
    clear hd s1 s2 s3
    go_upto_region 7 with fail
    generalize (W1.setCell ⟨m, 7, none⟩ (.int .i64 1)) = wc at H2 ⊢
    clear HZ
    try clear b6 b7 f6 f7
    have e1 : wc.cell? ⟨bb, 1, none⟩ = some (.bool false) := by have := H2.out.my.br.cells.2.1; rw [HM.out] at this; exact this
    have HW : Hid _ := fwrong_any H2.out.my.rr 32 at_
    go_wp2_with fail
    refine Calls.mono HW.out ?_
    rintro e w3 ⟨rfl, q1, q2⟩
    have H4 : Hid (Fq B rb s last (wrongF 32 at_ r) vn w3 ∧ Bb B rb bb vn kv b w3 ∧ AdvB rb bb vn kv w vn kv w3) := ⟨q1, H2.out.my.br.adv (Adv.on vn q2), AdvB.of (H2.out.my.adv.trans (Adv.on vn q2)) bb kv⟩
    clear q1 q2
    go_wp2_with fail
    go_end0
    exact ⟨rfl, vn, kv, H4.out⟩
  · have q3 : ((sg : Int) == 63) = false := by simp; omega
    have hd : mnyN sg = { op := 7, mn := 0, mx := -1 } := by unfold mnyN; rw [if_neg s1, if_neg (by omega)]
    have H2 : Hid (Mz B rb bb m s last r vn kv b w (mnyN sg) W1) := by rw [hd]; exact HZ.out
    clear hd s1 s2 s3
    go_upto_region 7 with fail
    generalize W1 = wc at H2 ⊢
    try clear HZ
    try clear b6 b7 f6 f7
    have e1 : wc.cell? ⟨bb, 1, none⟩ = some (.bool false) := by have := H2.out.my.br.cells.2.1; rw [HM.out] at this; exact this
    have HW : Hid _ := fwrong_any H2.out.my.rr 32 at_
    go_wp2_with fail
    refine Calls.mono HW.out ?_
    rintro e w3 ⟨rfl, q1, q2⟩
    have H4 : Hid (Fq B rb s last (wrongF 32 at_ r) vn w3 ∧ Bb B rb bb vn kv b w3 ∧ AdvB rb bb vn kv w vn kv w3) := ⟨q1, H2.out.my.br.adv (Adv.on vn q2), AdvB.of (H2.out.my.adv.trans (Adv.on vn q2)) bb kv⟩
    clear q1 q2
    go_wp2_with fail
    go_end0
    exact ⟨rfl, vn, kv, H4.out⟩
end
end Go.Proofs.YtalmajiflmejcaaGreat
