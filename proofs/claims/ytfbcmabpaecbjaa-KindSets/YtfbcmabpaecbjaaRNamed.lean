/- The document's Named returns just the set of the bytes of its name (or nothing, false), and writes nothing that was there. -/
import Derived.Test.YtfbcmabpaecbjaaNamed
namespace Go.Proofs.Ytfbcmabpaecbjaa
open Go.ChangeShapes Go.WideShapes Go.ChangeAt Go.RowKit

theorem pct_other (c : Int) : pctB c = (bt c 33 126 && !letB c && !digB c) := by
  rw [Bool.eq_iff_iff]
  simp only [pctB, letB, smlB, grtB, digB, bt, Bool.or_eq_true, Bool.and_eq_true, Bool.not_eq_true', Bool.or_eq_false_iff, decide_eq_true_eq, decide_eq_false_iff_not]
  omega
theorem isB_x (c : Int) : isB 120 c = hexB c := by simp [isB, smI, grtB, bt, knB, clsB]
theorem rnamed_no {s : ByteArray} (h : nmN s.toList = none) (c : Int) (w : World) :
    Calls Try.prog 38 #[.string s, .int .u8 c] w fun e w' => e = .returned (.tuple #[.bool false, .bool false]) ∧ w' = w := by
  obtain ⟨h0, h1, h2, h3, h4, h5, h6, h7, h8, h9⟩ := nm_none h
  clear h
  cases q1 : smlB c
  all_goals
    go_enter Try.func38, Try.ntmps38
    go_wp2_with (first | (go_at_call 44; refine (rsmall_any _ _).mono ?_; rintro e w1 ⟨rfl, rfl⟩) | (go_at_call 37; refine (rgreat_any _ _).mono ?_; rintro e w1 ⟨rfl, rfl⟩) | (go_at_call 42; refine (rdigit_any _ _).mono ?_; rintro e w1 ⟨rfl, rfl⟩) | (go_at_call 43; refine (rbetween_any _ _ _ _).mono ?_; rintro e w1 ⟨rfl, rfl⟩) | (go_at_call 18; refine (rIs_any _ _ _).mono ?_; rintro e w1 ⟨rfl, rfl⟩))
    go_ret2
    exact ⟨rfl, rfl⟩
theorem rnamed_alpha {s : ByteArray} (hs : s.toList = [97, 108, 112, 104, 97]) (c : Int) (w : World) :
    Calls Try.prog 38 #[.string s, .int .u8 c] w fun e w' => e = .returned (.tuple #[.bool (letB c), .bool true]) ∧ w' = w := by
  unfold letB
  cases q1 : smlB c
  all_goals
    go_enter Try.func38, Try.ntmps38
    go_wp2_with (first | (go_at_call 44; refine (rsmall_any _ _).mono ?_; rintro e w1 ⟨rfl, rfl⟩) | (go_at_call 37; refine (rgreat_any _ _).mono ?_; rintro e w1 ⟨rfl, rfl⟩) | (go_at_call 42; refine (rdigit_any _ _).mono ?_; rintro e w1 ⟨rfl, rfl⟩) | (go_at_call 43; refine (rbetween_any _ _ _ _).mono ?_; rintro e w1 ⟨rfl, rfl⟩) | (go_at_call 18; refine (rIs_any _ _ _).mono ?_; rintro e w1 ⟨rfl, rfl⟩))
    go_ret2
    exact ⟨by simp, rfl⟩
theorem rnamed_digit {s : ByteArray} (hs : s.toList = [100, 105, 103, 105, 116]) (c : Int) (w : World) :
    Calls Try.prog 38 #[.string s, .int .u8 c] w fun e w' => e = .returned (.tuple #[.bool (digB c), .bool true]) ∧ w' = w := by
  cases q1 : smlB c
  all_goals
    go_enter Try.func38, Try.ntmps38
    go_wp2_with (first | (go_at_call 44; refine (rsmall_any _ _).mono ?_; rintro e w1 ⟨rfl, rfl⟩) | (go_at_call 37; refine (rgreat_any _ _).mono ?_; rintro e w1 ⟨rfl, rfl⟩) | (go_at_call 42; refine (rdigit_any _ _).mono ?_; rintro e w1 ⟨rfl, rfl⟩) | (go_at_call 43; refine (rbetween_any _ _ _ _).mono ?_; rintro e w1 ⟨rfl, rfl⟩) | (go_at_call 18; refine (rIs_any _ _ _).mono ?_; rintro e w1 ⟨rfl, rfl⟩))
    go_ret2
    exact ⟨by simp, rfl⟩
theorem rnamed_alnum {s : ByteArray} (hs : s.toList = [97, 108, 110, 117, 109]) (c : Int) (w : World) :
    Calls Try.prog 38 #[.string s, .int .u8 c] w fun e w' => e = .returned (.tuple #[.bool (ladB c), .bool true]) ∧ w' = w := by
  unfold ladB letB
  cases q1 : smlB c <;> cases q2 : grtB c
  all_goals
    go_enter Try.func38, Try.ntmps38
    go_wp2_with (first | (go_at_call 44; refine (rsmall_any _ _).mono ?_; rintro e w1 ⟨rfl, rfl⟩) | (go_at_call 37; refine (rgreat_any _ _).mono ?_; rintro e w1 ⟨rfl, rfl⟩) | (go_at_call 42; refine (rdigit_any _ _).mono ?_; rintro e w1 ⟨rfl, rfl⟩) | (go_at_call 43; refine (rbetween_any _ _ _ _).mono ?_; rintro e w1 ⟨rfl, rfl⟩) | (go_at_call 18; refine (rIs_any _ _ _).mono ?_; rintro e w1 ⟨rfl, rfl⟩))
    go_ret2
    exact ⟨by simp, rfl⟩
theorem rnamed_lower {s : ByteArray} (hs : s.toList = [108, 111, 119, 101, 114]) (c : Int) (w : World) :
    Calls Try.prog 38 #[.string s, .int .u8 c] w fun e w' => e = .returned (.tuple #[.bool (smlB c), .bool true]) ∧ w' = w := by
  cases q1 : smlB c
  all_goals
    go_enter Try.func38, Try.ntmps38
    go_wp2_with (first | (go_at_call 44; refine (rsmall_any _ _).mono ?_; rintro e w1 ⟨rfl, rfl⟩) | (go_at_call 37; refine (rgreat_any _ _).mono ?_; rintro e w1 ⟨rfl, rfl⟩) | (go_at_call 42; refine (rdigit_any _ _).mono ?_; rintro e w1 ⟨rfl, rfl⟩) | (go_at_call 43; refine (rbetween_any _ _ _ _).mono ?_; rintro e w1 ⟨rfl, rfl⟩) | (go_at_call 18; refine (rIs_any _ _ _).mono ?_; rintro e w1 ⟨rfl, rfl⟩))
    go_ret2
    exact ⟨by simp, rfl⟩
theorem rnamed_upper {s : ByteArray} (hs : s.toList = [117, 112, 112, 101, 114]) (c : Int) (w : World) :
    Calls Try.prog 38 #[.string s, .int .u8 c] w fun e w' => e = .returned (.tuple #[.bool (grtB c), .bool true]) ∧ w' = w := by
  cases q1 : smlB c
  all_goals
    go_enter Try.func38, Try.ntmps38
    go_wp2_with (first | (go_at_call 44; refine (rsmall_any _ _).mono ?_; rintro e w1 ⟨rfl, rfl⟩) | (go_at_call 37; refine (rgreat_any _ _).mono ?_; rintro e w1 ⟨rfl, rfl⟩) | (go_at_call 42; refine (rdigit_any _ _).mono ?_; rintro e w1 ⟨rfl, rfl⟩) | (go_at_call 43; refine (rbetween_any _ _ _ _).mono ?_; rintro e w1 ⟨rfl, rfl⟩) | (go_at_call 18; refine (rIs_any _ _ _).mono ?_; rintro e w1 ⟨rfl, rfl⟩))
    go_ret2
    exact ⟨by simp, rfl⟩
theorem rnamed_blank {s : ByteArray} (hs : s.toList = [98, 108, 97, 110, 107]) (c : Int) (w : World) :
    Calls Try.prog 38 #[.string s, .int .u8 c] w fun e w' => e = .returned (.tuple #[.bool (blkB c), .bool true]) ∧ w' = w := by
  unfold blkB
  cases q1 : smlB c <;> cases q2 : (c == 32)
  all_goals
    go_enter Try.func38, Try.ntmps38
    go_wp2_with (first | (go_at_call 44; refine (rsmall_any _ _).mono ?_; rintro e w1 ⟨rfl, rfl⟩) | (go_at_call 37; refine (rgreat_any _ _).mono ?_; rintro e w1 ⟨rfl, rfl⟩) | (go_at_call 42; refine (rdigit_any _ _).mono ?_; rintro e w1 ⟨rfl, rfl⟩) | (go_at_call 43; refine (rbetween_any _ _ _ _).mono ?_; rintro e w1 ⟨rfl, rfl⟩) | (go_at_call 18; refine (rIs_any _ _ _).mono ?_; rintro e w1 ⟨rfl, rfl⟩))
    go_ret2
    exact ⟨by simp, rfl⟩
theorem rnamed_space {s : ByteArray} (hs : s.toList = [115, 112, 97, 99, 101]) (c : Int) (w : World) :
    Calls Try.prog 38 #[.string s, .int .u8 c] w fun e w' => e = .returned (.tuple #[.bool (spcB c), .bool true]) ∧ w' = w := by
  unfold spcB
  cases q1 : smlB c <;> cases q2 : (c == 32)
  all_goals
    go_enter Try.func38, Try.ntmps38
    go_wp2_with (first | (go_at_call 44; refine (rsmall_any _ _).mono ?_; rintro e w1 ⟨rfl, rfl⟩) | (go_at_call 37; refine (rgreat_any _ _).mono ?_; rintro e w1 ⟨rfl, rfl⟩) | (go_at_call 42; refine (rdigit_any _ _).mono ?_; rintro e w1 ⟨rfl, rfl⟩) | (go_at_call 43; refine (rbetween_any _ _ _ _).mono ?_; rintro e w1 ⟨rfl, rfl⟩) | (go_at_call 18; refine (rIs_any _ _ _).mono ?_; rintro e w1 ⟨rfl, rfl⟩))
    go_ret2
    exact ⟨by simp, rfl⟩
theorem rnamed_xdigit {s : ByteArray} (hs : s.toList = [120, 100, 105, 103, 105, 116]) (c : Int) (w : World) :
    Calls Try.prog 38 #[.string s, .int .u8 c] w fun e w' => e = .returned (.tuple #[.bool (hexB c), .bool true]) ∧ w' = w := by
  rw [← isB_x]
  cases q1 : smlB c
  all_goals
    go_enter Try.func38, Try.ntmps38
    go_wp2_with (first | (go_at_call 44; refine (rsmall_any _ _).mono ?_; rintro e w1 ⟨rfl, rfl⟩) | (go_at_call 37; refine (rgreat_any _ _).mono ?_; rintro e w1 ⟨rfl, rfl⟩) | (go_at_call 42; refine (rdigit_any _ _).mono ?_; rintro e w1 ⟨rfl, rfl⟩) | (go_at_call 43; refine (rbetween_any _ _ _ _).mono ?_; rintro e w1 ⟨rfl, rfl⟩) | (go_at_call 18; refine (rIs_any _ _ _).mono ?_; rintro e w1 ⟨rfl, rfl⟩))
    go_ret2
    exact ⟨by simp, rfl⟩
theorem rnamed_cntrl {s : ByteArray} (hs : s.toList = [99, 110, 116, 114, 108]) (c : Int) (w : World) :
    Calls Try.prog 38 #[.string s, .int .u8 c] w fun e w' => e = .returned (.tuple #[.bool (ctlB c), .bool true]) ∧ w' = w := by
  unfold ctlB
  cases q1 : smlB c <;> cases q2 : decide (c < 32)
  all_goals
    go_enter Try.func38, Try.ntmps38
    go_wp2_with (first | (go_at_call 44; refine (rsmall_any _ _).mono ?_; rintro e w1 ⟨rfl, rfl⟩) | (go_at_call 37; refine (rgreat_any _ _).mono ?_; rintro e w1 ⟨rfl, rfl⟩) | (go_at_call 42; refine (rdigit_any _ _).mono ?_; rintro e w1 ⟨rfl, rfl⟩) | (go_at_call 43; refine (rbetween_any _ _ _ _).mono ?_; rintro e w1 ⟨rfl, rfl⟩) | (go_at_call 18; refine (rIs_any _ _ _).mono ?_; rintro e w1 ⟨rfl, rfl⟩))
    go_ret2
    exact ⟨by simp, rfl⟩
theorem rnamed_punct {s : ByteArray} (hs : s.toList = [112, 117, 110, 99, 116]) (c : Int) (w : World) :
    Calls Try.prog 38 #[.string s, .int .u8 c] w fun e w' => e = .returned (.tuple #[.bool (pctB c), .bool true]) ∧ w' = w := by
  rw [pct_other]
  unfold letB
  cases q1 : smlB c <;> cases q2 : grtB c <;> cases q3 : bt c 33 126
  all_goals
    go_enter Try.func38, Try.ntmps38
    go_wp2_with (first | (go_at_call 44; refine (rsmall_any _ _).mono ?_; rintro e w1 ⟨rfl, rfl⟩) | (go_at_call 37; refine (rgreat_any _ _).mono ?_; rintro e w1 ⟨rfl, rfl⟩) | (go_at_call 42; refine (rdigit_any _ _).mono ?_; rintro e w1 ⟨rfl, rfl⟩) | (go_at_call 43; refine (rbetween_any _ _ _ _).mono ?_; rintro e w1 ⟨rfl, rfl⟩) | (go_at_call 18; refine (rIs_any _ _ _).mono ?_; rintro e w1 ⟨rfl, rfl⟩))
    go_ret2
    exact ⟨by simp, rfl⟩
theorem rnamed_any (s : ByteArray) (c : Int) (w : World) :
    Calls Try.prog 38 #[.string s, .int .u8 c] w fun e w' => e = .returned (.tuple #[.bool (nmB s.toList c), .bool (nmK s.toList)]) ∧ w' = w := by
  cases h : nmN s.toList with
  | none =>
    rw [nmB_none h, show nmK s.toList = false from by unfold nmK; rw [h]; rfl]
    exact rnamed_no h c w
  | some n =>
    rw [show nmK s.toList = true from by unfold nmK; rw [h]; rfl]
    rcases nm_some h with ⟨hs, _⟩ | ⟨hs, _⟩ | ⟨hs, _⟩ | ⟨hs, _⟩ | ⟨hs, _⟩ | ⟨hs, _⟩ | ⟨hs, _⟩ | ⟨hs, _⟩ | ⟨hs, _⟩ | ⟨hs, _⟩
    · rw [show nmB s.toList c = letB c from by rw [hs]; rfl]
      exact rnamed_alpha hs c w
    · rw [show nmB s.toList c = digB c from by rw [hs]; rfl]
      exact rnamed_digit hs c w
    · rw [show nmB s.toList c = ladB c from by rw [hs]; rfl]
      exact rnamed_alnum hs c w
    · rw [show nmB s.toList c = smlB c from by rw [hs]; rfl]
      exact rnamed_lower hs c w
    · rw [show nmB s.toList c = grtB c from by rw [hs]; rfl]
      exact rnamed_upper hs c w
    · rw [show nmB s.toList c = blkB c from by rw [hs]; rfl]
      exact rnamed_blank hs c w
    · rw [show nmB s.toList c = spcB c from by rw [hs]; rfl]
      exact rnamed_space hs c w
    · rw [show nmB s.toList c = hexB c from by rw [hs]; rfl]
      exact rnamed_xdigit hs c w
    · rw [show nmB s.toList c = ctlB c from by rw [hs]; rfl]
      exact rnamed_cntrl hs c w
    · rw [show nmB s.toList c = pctB c from by rw [hs]; rfl]
      exact rnamed_punct hs c w

set_option maxRecDepth 100000 in
theorem rNamed_any (s : ByteArray) (w : World) :
    Calls Try.prog 21 #[.string s] w fun e w' =>
      e = .returned (.tuple #[.agg #[.int .u64 (foldS (nmB s.toList) 256).a, .int .u64 (foldS (nmB s.toList) 256).b, .int .u64 (foldS (nmB s.toList) 256).c, .int .u64 (foldS (nmB s.toList) 256).d], .bool (nmK s.toList)]) ∧ Below w.heap.size w w' := by
  have KR : Hid (∀ (c : Int) (w : World), Calls Try.prog 38 #[.string s, .int .u8 c] w fun e w' => e = .returned (.tuple #[.bool (nmB s.toList c), .bool (nmK s.toList)]) ∧ w' = w) := fun c w => rnamed_any s c w
  generalize nmB s.toList = f at *
  generalize nmK s.toList = b at *
  go_enter Try.func21, Try.ntmps21
  go_wp2
  go_loopw [5, 6] (fun t i wr => ∃ j : Nat, j ≤ 256 ∧ i = .int .i64 j ∧ (∃ q, t = .bool q ∧ (0 < j → q = b)) ∧ Inv w wr (foldS f j)) (fun _ i _ => 256 - (intOf i).toNat)
  case atStart => exact ⟨0, Nat.zero_le _, rfl, ⟨_, rfl, fun h => by omega⟩, inv_start w 24⟩
  case round =>
    obtain ⟨j, hj, rfl, ⟨q, rfl, hqb⟩, hI⟩ := hrel
    by_cases hlt : j < 256
    · clear hqb
      cases hf : f j
      · have HF : Hid (foldS f (j + 1) = foldS f j) := fold_no hf
        go_wp2_with fail
        refine (KR.out _ _).mono ?_
        rintro e w1 ⟨rfl, rfl⟩
        go_wp2
        go_roundw
        case rel => exact ⟨j + 1, by omega, by go_num, ⟨_, rfl, fun _ => rfl⟩, by rw [HF.out]; exact hI⟩
        case measure => simp [intOf]; omega
      · have HF : Hid (foldS f (j + 1) = withS (foldS f j) j) := fold_yes hf
        obtain ⟨c0, c1, c2, c3⟩ := hI.s
        go_wp2_with fail
        refine (KR.out _ _).mono ?_
        rintro e w1 ⟨rfl, rfl⟩
        go_wp2_with fail
        refine (rWith_any (foldS f j) (ok_fold _ j hj) j hlt _).mono ?_
        rintro e w2 ⟨rfl, hb2⟩
        have hI2 := hI.below hb2
        obtain ⟨d0, d1, d2, d3⟩ := hI2.s
        obtain ⟨f0, f1, f2, f3⟩ := hI2.fs
        clear c0 c1 c2 c3
        go_wp2
        go_roundw
        case rel => exact ⟨j + 1, by omega, by go_num, ⟨_, rfl, fun _ => rfl⟩, by rw [HF.out]; exact hI2.put _⟩
        case measure => simp [intOf]; omega
    · have hk2 : j = 256 := by omega
      subst hk2
      obtain rfl := hqb (by decide)
      obtain ⟨c0, c1, c2, c3⟩ := hI.s
      obtain ⟨d0, d1, d2, d3⟩ := hI.r
      obtain ⟨f0, f1, f2, f3⟩ := hI.fr
      clear hqb
      go_wp2
      obtain ⟨r0, r1, r2, r3⟩ := hI.r.put4 (foldS f 256)
      have hbl := below_put4 hI.bw (Nat.le_refl _) (foldS f 256)
      show bodyPost _ _ _ _ _ (put4 _ w.heap.size (foldS f 256))
      generalize put4 _ w.heap.size (foldS f 256) = wz at *
      generalize foldS f 256 = t at *
      exact bodyPost_ret (v := .tuple #[.agg #[.int .u64 t.a, .int .u64 t.b, .int .u64 t.c, .int .u64 t.d], .bool q]) (by simp [results, Try.results21, go_sem, r0, r1, r2, r3]) rfl ⟨rfl, hbl⟩
end Go.Proofs.Ytfbcmabpaecbjaa
