/- For every two bytes the statement KindOther returns true: a class and its other one are apart, and are all bytes together; a set has just the bytes of its class; no condition. -/
import Derived.Test.YtfbcmabpaecbjabOf
import Derived.ShutString
import Derived.ChangeOld
namespace Go.Proofs.Ytfbcmabpaecbjab.kindOther
open Go.ChangeShapes Go.WideShapes Go.ChangeAt Go.RowKit
open Go.ChangeMaps (open_string shut_string)
set_option linter.unusedVariables false

theorem own : ownKnob Try.prog.godebug = none := by kernel_rfl
theorem laidOut : laidOutB Try.prog = true := by kernel_rfl

theorem letters {k : Int} (h : knB (smI k) = true) :
    (grtB k = true ∧ (grI k == k) = true ∧ smI (smI k) = smI k ∧ grtB (smI k) = false) ∨ (grtB k = false ∧ (grI k == k) = false ∧ smI (grI k) = smI k ∧ grtB (grI k) = true) := by
  cases hg : grtB k
  · right
    have e : smI k = k := by unfold smI; rw [hg]; rfl
    rw [e] at h
    rcases knB_yes h with rfl | rfl | rfl | rfl | rfl | rfl | rfl | rfl | rfl <;> decide
  · left
    have e : smI k = k + 32 := by unfold smI; rw [hg]; rfl
    obtain ⟨k1, k2⟩ := grtB_iff.1 hg
    have hs : grtB (k + 32) = false := by cases q : grtB (k + 32); rfl; have := grtB_iff.1 q; omega
    have hl : smlB k = false := by cases q : smlB k; rfl; have := smlB_iff.1 q; omega
    refine ⟨rfl, ?_, ?_, ?_⟩
    · unfold grI; rw [hl]; simp
    · rw [e]; unfold smI; rw [hs]; rfl
    · rw [e]; exact hs
theorem other_is {k o : Int} (h1 : smI o = smI k) (h2 : grtB o = !grtB k) (h : knB (smI k) = true) (c : Int) : isB o c = !isB k c := by
  unfold isB
  rw [h1, h2, h]
  cases clsB (smI k) c <;> cases grtB k <;> rfl
theorem other_set {k o : Int} (h : ∀ c, isB o c = !isB k c) : foldS (isB o) 256 = notS (foldS (isB k) 256) :=
  set_ext (ok_fold _ 256 (by omega)) (ok_not (ok_fold _ 256 (by omega))) fun x hx => by
    rw [has_not _ hx, has_all _ hx, has_all _ hx, h]
theorem walk_no (k c : Int) (h : knB (smI k) = false) (w : World) :
    Calls Try.prog 4 #[.int .u8 k, .int .u8 c] w fun e w' => e = .returned (.bool true) ∧ Below w.heap.size w w' := by
  go_enter Try.func4, Try.ntmps4
  go_wp2_with fail
  refine (kKnown_any _ _).mono ?_
  rintro e x1 ⟨rfl, hb1⟩
  go_wp2_with fail
  refine (known_any _).mono ?_
  rintro e x2 ⟨rfl, hb2⟩
  go_wp2
  go_ret
  exact ⟨rfl, bw_trans hb1 hb2⟩
set_option maxHeartbeats 1000000 in
theorem walk_yes (k : Int) (y : Nat) (hy : y < 256) (h : knB (smI k) = true) (w : World) :
    Calls Try.prog 4 #[.int .u8 k, .int .u8 y] w fun e w' => e = .returned (.bool true) ∧ Below w.heap.size w w' := by
  have hq := eq_set
  have hr := set_refl
  obtain ⟨o, ho, hko⟩ : ∃ o, ((grI k == k) = true ∧ o = smI k ∨ (grI k == k) = false ∧ o = grI k) ∧ smI o = smI k ∧ grtB o = !grtB k := by
    rcases letters h with ⟨h1, h2, h3, h4⟩ | ⟨h1, h2, h3, h4⟩
    · exact ⟨_, .inl ⟨h2, rfl⟩, h3, by rw [h1, h4]; rfl⟩
    · exact ⟨_, .inr ⟨h2, rfl⟩, h3, by rw [h1, h4]; rfl⟩
  have hso := other_is hko.1 hko.2 h
  have hset := other_set hso
  have hkn : knB (smI o) = true := by rw [hko.1]; exact h
  have oks := ok_fold (isB k) 256 (by omega)
  have okt := ok_not oks
  have hs1 : hasS (foldS (isB k) 256) y = isB k y := has_all _ hy
  have ht1 : hasS (notS (foldS (isB k) 256)) y = !isB k y := by rw [has_not _ hy, has_all _ hy]
  have KO : Hid (∀ w, Calls Try.prog 15 #[.int .u8 o] w fun e w' =>
      e = .returned (.tuple #[.agg #[.int .u64 (notS (foldS (isB k) 256)).a, .int .u64 (notS (foldS (isB k) 256)).b, .int .u64 (notS (foldS (isB k) 256)).c, .int .u64 (notS (foldS (isB k) 256)).d], .bool true]) ∧ Below w.heap.size w w') := by
    intro w
    have := kOf_any o w
    rwa [hset, hkn] at this
  have KK : Hid (∀ w, Calls Try.prog 15 #[.int .u8 k] w fun e w' =>
      e = .returned (.tuple #[.agg #[.int .u64 (foldS (isB k) 256).a, .int .u64 (foldS (isB k) 256).b, .int .u64 (foldS (isB k) 256).c, .int .u64 (foldS (isB k) 256).d], .bool true]) ∧ Below w.heap.size w w') := by
    intro w
    have := kOf_any k w
    rwa [h] at this
  have KN : Hid (∀ w, Calls Try.prog 16 #[.agg #[.int .u64 (foldS (isB k) 256).a, .int .u64 (foldS (isB k) 256).b, .int .u64 (foldS (isB k) 256).c, .int .u64 (foldS (isB k) 256).d]] w fun e w' =>
      e = .returned (.agg #[.int .u64 (notS (foldS (isB k) 256)).a, .int .u64 (notS (foldS (isB k) 256)).b, .int .u64 (notS (foldS (isB k) 256)).c, .int .u64 (notS (foldS (isB k) 256)).d]) ∧ Below w.heap.size w w') := fun w => kNot_any _ oks w
  clear hso hset hkn hko
  generalize foldS (isB k) 256 = s at *
  generalize notS s = t at *
  rcases ho with ⟨hg, rfl⟩ | ⟨hg, rfl⟩
  all_goals cases hb0 : isB k y
  all_goals rw [hb0] at hs1 ht1
  · simp only [Bool.not_false] at ht1
    go_enter Try.func4, Try.ntmps4
    go_wp2_with fail
    refine (kKnown_any _ _).mono ?_
    rintro e x1 ⟨rfl, hb1⟩
    go_wp2_with fail
    refine (known_any _).mono ?_
    rintro e x2 ⟨rfl, hb2⟩
    go_wp2_with fail
    refine (kGreat_any _ _).mono ?_
    rintro e x3 ⟨rfl, rfl⟩
    go_wp2_with fail
    refine (kSmall_any _ _).mono ?_
    rintro e x3 ⟨rfl, rfl⟩
    go_wp2_with fail
    refine (KK.out _).mono ?_
    rintro e x3 ⟨rfl, hb3⟩
    go_wp2_with fail
    refine (KO.out _).mono ?_
    rintro e x4 ⟨rfl, hb4⟩
    have hb : Below w.heap.size w x3 := bw_trans (bw_trans hb1 hb2) hb3
    have hz : x3.heap.size + 1 ≤ x4.heap.size := by have := hb4.size; rw [size_alloc] at this; omega
    have b1 : Box x4 x3.heap.size s := (box_new x3 s 28).below hb4 (by simp only [size_alloc]; omega)
    have hb' : Below w.heap.size w x4 := bw_trans (bw_alloc hb _) hb4
    have hzw : w.heap.size ≤ x4.heap.size := hb'.size
    clear hb1 hb2 hb3 hb4 hb
    go_wp2
    obtain ⟨W0, hW0⟩ : ∃ W0, W0 = x4.alloc (.cells #[.int .u64 t.a, .int .u64 t.b, .int .u64 t.c, .int .u64 t.d] 28) := ⟨_, rfl⟩
    have c1 : Box W0 x3.heap.size s := by rw [hW0]; exact b1.alloc (by omega) _
    have c2 : Box W0 x4.heap.size t := by rw [hW0]; exact box_new _ _ _
    have hB : x4.heap.size + 1 ≤ W0.heap.size := by rw [hW0, size_alloc]; omega
    have hbW : Below w.heap.size w W0 := by rw [hW0]; exact bw_alloc hb' _
    rw [← hW0]
    have d1 := fun w' (q : Below (x4.heap.size + 1) W0 w') => (c1.below q (by omega)).1
    have d2 := fun w' (q : Below (x4.heap.size + 1) W0 w') => (c1.below q (by omega)).2.1
    have d3 := fun w' (q : Below (x4.heap.size + 1) W0 w') => (c1.below q (by omega)).2.2.1
    have d4 := fun w' (q : Below (x4.heap.size + 1) W0 w') => (c1.below q (by omega)).2.2.2
    have e1 := fun w' (q : Below (x4.heap.size + 1) W0 w') => (c2.below q (by omega)).1
    have e2 := fun w' (q : Below (x4.heap.size + 1) W0 w') => (c2.below q (by omega)).2.1
    have e3 := fun w' (q : Below (x4.heap.size + 1) W0 w') => (c2.below q (by omega)).2.2.1
    have e4 := fun w' (q : Below (x4.heap.size + 1) W0 w') => (c2.below q (by omega)).2.2.2
    clear c1 c2 b1 hW0 hb'
    have hk0 : Below (x4.heap.size + 1) W0 W0 := Below.refl _ _
    go_region_held3 (fun w' => Below (x4.heap.size + 1) W0 w') (first | assumption | exact Below.drew (by assumption))
      (first
        | (go_at_call 16; refine (KN.out _).mono ?_; rintro e w3 ⟨rfl, hb⟩; have hk := keepB hB (by assumption) hb)
        | (go_at_call 18; refine (kIs_any _ _ _).mono ?_; rintro e w3 ⟨rfl, hb⟩; (try simp only [hb0]); have hk := keepB hB (by assumption) hb)
        | (go_at_call 17; refine (kHas_any _ (by assumption) _ (by assumption) _).mono ?_; rintro e w3 ⟨rfl, hb⟩; (try simp only [hs1, ht1]); have hk := keepB hB (by assumption) hb))
    go_wp2
    go_ret
    exact ⟨rfl, hbW.trans (Below.mono (by assumption) (by omega))⟩
  · simp only [Bool.not_true] at ht1
    go_enter Try.func4, Try.ntmps4
    go_wp2_with fail
    refine (kKnown_any _ _).mono ?_
    rintro e x1 ⟨rfl, hb1⟩
    go_wp2_with fail
    refine (known_any _).mono ?_
    rintro e x2 ⟨rfl, hb2⟩
    go_wp2_with fail
    refine (kGreat_any _ _).mono ?_
    rintro e x3 ⟨rfl, rfl⟩
    go_wp2_with fail
    refine (kSmall_any _ _).mono ?_
    rintro e x3 ⟨rfl, rfl⟩
    go_wp2_with fail
    refine (KK.out _).mono ?_
    rintro e x3 ⟨rfl, hb3⟩
    go_wp2_with fail
    refine (KO.out _).mono ?_
    rintro e x4 ⟨rfl, hb4⟩
    have hb : Below w.heap.size w x3 := bw_trans (bw_trans hb1 hb2) hb3
    have hz : x3.heap.size + 1 ≤ x4.heap.size := by have := hb4.size; rw [size_alloc] at this; omega
    have b1 : Box x4 x3.heap.size s := (box_new x3 s 28).below hb4 (by simp only [size_alloc]; omega)
    have hb' : Below w.heap.size w x4 := bw_trans (bw_alloc hb _) hb4
    have hzw : w.heap.size ≤ x4.heap.size := hb'.size
    clear hb1 hb2 hb3 hb4 hb
    go_wp2
    obtain ⟨W0, hW0⟩ : ∃ W0, W0 = x4.alloc (.cells #[.int .u64 t.a, .int .u64 t.b, .int .u64 t.c, .int .u64 t.d] 28) := ⟨_, rfl⟩
    have c1 : Box W0 x3.heap.size s := by rw [hW0]; exact b1.alloc (by omega) _
    have c2 : Box W0 x4.heap.size t := by rw [hW0]; exact box_new _ _ _
    have hB : x4.heap.size + 1 ≤ W0.heap.size := by rw [hW0, size_alloc]; omega
    have hbW : Below w.heap.size w W0 := by rw [hW0]; exact bw_alloc hb' _
    rw [← hW0]
    have d1 := fun w' (q : Below (x4.heap.size + 1) W0 w') => (c1.below q (by omega)).1
    have d2 := fun w' (q : Below (x4.heap.size + 1) W0 w') => (c1.below q (by omega)).2.1
    have d3 := fun w' (q : Below (x4.heap.size + 1) W0 w') => (c1.below q (by omega)).2.2.1
    have d4 := fun w' (q : Below (x4.heap.size + 1) W0 w') => (c1.below q (by omega)).2.2.2
    have e1 := fun w' (q : Below (x4.heap.size + 1) W0 w') => (c2.below q (by omega)).1
    have e2 := fun w' (q : Below (x4.heap.size + 1) W0 w') => (c2.below q (by omega)).2.1
    have e3 := fun w' (q : Below (x4.heap.size + 1) W0 w') => (c2.below q (by omega)).2.2.1
    have e4 := fun w' (q : Below (x4.heap.size + 1) W0 w') => (c2.below q (by omega)).2.2.2
    clear c1 c2 b1 hW0 hb'
    have hk0 : Below (x4.heap.size + 1) W0 W0 := Below.refl _ _
    go_region_held3 (fun w' => Below (x4.heap.size + 1) W0 w') (first | assumption | exact Below.drew (by assumption))
      (first
        | (go_at_call 16; refine (KN.out _).mono ?_; rintro e w3 ⟨rfl, hb⟩; have hk := keepB hB (by assumption) hb)
        | (go_at_call 18; refine (kIs_any _ _ _).mono ?_; rintro e w3 ⟨rfl, hb⟩; (try simp only [hb0]); have hk := keepB hB (by assumption) hb)
        | (go_at_call 17; refine (kHas_any _ (by assumption) _ (by assumption) _).mono ?_; rintro e w3 ⟨rfl, hb⟩; (try simp only [hs1, ht1]); have hk := keepB hB (by assumption) hb))
    go_wp2
    go_ret
    exact ⟨rfl, hbW.trans (Below.mono (by assumption) (by omega))⟩
  · simp only [Bool.not_false] at ht1
    go_enter Try.func4, Try.ntmps4
    go_wp2_with fail
    refine (kKnown_any _ _).mono ?_
    rintro e x1 ⟨rfl, hb1⟩
    go_wp2_with fail
    refine (known_any _).mono ?_
    rintro e x2 ⟨rfl, hb2⟩
    go_wp2_with fail
    refine (kGreat_any _ _).mono ?_
    rintro e x3 ⟨rfl, rfl⟩
    go_wp2_with fail
    refine (KK.out _).mono ?_
    rintro e x3 ⟨rfl, hb3⟩
    go_wp2_with fail
    refine (KO.out _).mono ?_
    rintro e x4 ⟨rfl, hb4⟩
    have hb : Below w.heap.size w x3 := bw_trans (bw_trans hb1 hb2) hb3
    have hz : x3.heap.size + 1 ≤ x4.heap.size := by have := hb4.size; rw [size_alloc] at this; omega
    have b1 : Box x4 x3.heap.size s := (box_new x3 s 28).below hb4 (by simp only [size_alloc]; omega)
    have hb' : Below w.heap.size w x4 := bw_trans (bw_alloc hb _) hb4
    have hzw : w.heap.size ≤ x4.heap.size := hb'.size
    clear hb1 hb2 hb3 hb4 hb
    go_wp2
    obtain ⟨W0, hW0⟩ : ∃ W0, W0 = x4.alloc (.cells #[.int .u64 t.a, .int .u64 t.b, .int .u64 t.c, .int .u64 t.d] 28) := ⟨_, rfl⟩
    have c1 : Box W0 x3.heap.size s := by rw [hW0]; exact b1.alloc (by omega) _
    have c2 : Box W0 x4.heap.size t := by rw [hW0]; exact box_new _ _ _
    have hB : x4.heap.size + 1 ≤ W0.heap.size := by rw [hW0, size_alloc]; omega
    have hbW : Below w.heap.size w W0 := by rw [hW0]; exact bw_alloc hb' _
    rw [← hW0]
    have d1 := fun w' (q : Below (x4.heap.size + 1) W0 w') => (c1.below q (by omega)).1
    have d2 := fun w' (q : Below (x4.heap.size + 1) W0 w') => (c1.below q (by omega)).2.1
    have d3 := fun w' (q : Below (x4.heap.size + 1) W0 w') => (c1.below q (by omega)).2.2.1
    have d4 := fun w' (q : Below (x4.heap.size + 1) W0 w') => (c1.below q (by omega)).2.2.2
    have e1 := fun w' (q : Below (x4.heap.size + 1) W0 w') => (c2.below q (by omega)).1
    have e2 := fun w' (q : Below (x4.heap.size + 1) W0 w') => (c2.below q (by omega)).2.1
    have e3 := fun w' (q : Below (x4.heap.size + 1) W0 w') => (c2.below q (by omega)).2.2.1
    have e4 := fun w' (q : Below (x4.heap.size + 1) W0 w') => (c2.below q (by omega)).2.2.2
    clear c1 c2 b1 hW0 hb'
    have hk0 : Below (x4.heap.size + 1) W0 W0 := Below.refl _ _
    go_region_held3 (fun w' => Below (x4.heap.size + 1) W0 w') (first | assumption | exact Below.drew (by assumption))
      (first
        | (go_at_call 16; refine (KN.out _).mono ?_; rintro e w3 ⟨rfl, hb⟩; have hk := keepB hB (by assumption) hb)
        | (go_at_call 18; refine (kIs_any _ _ _).mono ?_; rintro e w3 ⟨rfl, hb⟩; (try simp only [hb0]); have hk := keepB hB (by assumption) hb)
        | (go_at_call 17; refine (kHas_any _ (by assumption) _ (by assumption) _).mono ?_; rintro e w3 ⟨rfl, hb⟩; (try simp only [hs1, ht1]); have hk := keepB hB (by assumption) hb))
    go_wp2
    go_ret
    exact ⟨rfl, hbW.trans (Below.mono (by assumption) (by omega))⟩
  · simp only [Bool.not_true] at ht1
    go_enter Try.func4, Try.ntmps4
    go_wp2_with fail
    refine (kKnown_any _ _).mono ?_
    rintro e x1 ⟨rfl, hb1⟩
    go_wp2_with fail
    refine (known_any _).mono ?_
    rintro e x2 ⟨rfl, hb2⟩
    go_wp2_with fail
    refine (kGreat_any _ _).mono ?_
    rintro e x3 ⟨rfl, rfl⟩
    go_wp2_with fail
    refine (KK.out _).mono ?_
    rintro e x3 ⟨rfl, hb3⟩
    go_wp2_with fail
    refine (KO.out _).mono ?_
    rintro e x4 ⟨rfl, hb4⟩
    have hb : Below w.heap.size w x3 := bw_trans (bw_trans hb1 hb2) hb3
    have hz : x3.heap.size + 1 ≤ x4.heap.size := by have := hb4.size; rw [size_alloc] at this; omega
    have b1 : Box x4 x3.heap.size s := (box_new x3 s 28).below hb4 (by simp only [size_alloc]; omega)
    have hb' : Below w.heap.size w x4 := bw_trans (bw_alloc hb _) hb4
    have hzw : w.heap.size ≤ x4.heap.size := hb'.size
    clear hb1 hb2 hb3 hb4 hb
    go_wp2
    obtain ⟨W0, hW0⟩ : ∃ W0, W0 = x4.alloc (.cells #[.int .u64 t.a, .int .u64 t.b, .int .u64 t.c, .int .u64 t.d] 28) := ⟨_, rfl⟩
    have c1 : Box W0 x3.heap.size s := by rw [hW0]; exact b1.alloc (by omega) _
    have c2 : Box W0 x4.heap.size t := by rw [hW0]; exact box_new _ _ _
    have hB : x4.heap.size + 1 ≤ W0.heap.size := by rw [hW0, size_alloc]; omega
    have hbW : Below w.heap.size w W0 := by rw [hW0]; exact bw_alloc hb' _
    rw [← hW0]
    have d1 := fun w' (q : Below (x4.heap.size + 1) W0 w') => (c1.below q (by omega)).1
    have d2 := fun w' (q : Below (x4.heap.size + 1) W0 w') => (c1.below q (by omega)).2.1
    have d3 := fun w' (q : Below (x4.heap.size + 1) W0 w') => (c1.below q (by omega)).2.2.1
    have d4 := fun w' (q : Below (x4.heap.size + 1) W0 w') => (c1.below q (by omega)).2.2.2
    have e1 := fun w' (q : Below (x4.heap.size + 1) W0 w') => (c2.below q (by omega)).1
    have e2 := fun w' (q : Below (x4.heap.size + 1) W0 w') => (c2.below q (by omega)).2.1
    have e3 := fun w' (q : Below (x4.heap.size + 1) W0 w') => (c2.below q (by omega)).2.2.1
    have e4 := fun w' (q : Below (x4.heap.size + 1) W0 w') => (c2.below q (by omega)).2.2.2
    clear c1 c2 b1 hW0 hb'
    have hk0 : Below (x4.heap.size + 1) W0 W0 := Below.refl _ _
    go_region_held3 (fun w' => Below (x4.heap.size + 1) W0 w') (first | assumption | exact Below.drew (by assumption))
      (first
        | (go_at_call 16; refine (KN.out _).mono ?_; rintro e w3 ⟨rfl, hb⟩; have hk := keepB hB (by assumption) hb)
        | (go_at_call 18; refine (kIs_any _ _ _).mono ?_; rintro e w3 ⟨rfl, hb⟩; (try simp only [hb0]); have hk := keepB hB (by assumption) hb)
        | (go_at_call 17; refine (kHas_any _ (by assumption) _ (by assumption) _).mono ?_; rintro e w3 ⟨rfl, hb⟩; (try simp only [hs1, ht1]); have hk := keepB hB (by assumption) hb))
    go_wp2
    go_ret
    exact ⟨rfl, hbW.trans (Below.mono (by assumption) (by omega))⟩
theorem walk (a0 : Int) (w0 : (Lit.int .u8 a0).wf = true) (a1 : Int) (w1 : (Lit.int .u8 a1).wf = true) (w : World) :
    Calls Try.prog 4 #[.int .u8 a0, .int .u8 a1] w fun e w' => e = .returned (.bool true) ∧ Below w.heap.size w w' := by
  cases h : knB (smI a0)
  · exact walk_no a0 a1 h w
  · obtain ⟨y, rfl, hy⟩ := u8_range w1
    exact walk_yes a0 y hy h w

set_option maxRecDepth 100000 in
theorem lifted (os : Os) (started : os.Started) (H : Type) (enc : TypeId × Value → H) :
    ReturnsInHanded {} Try.checked os 4 .any (Rows.kindOtherSpec.pre6 enc Try.prog Try.f4 Rows.kindOtherRow.domain false) (Rows.kindOtherSpec.post enc Try.prog Try.f4 false true false false) := by
  refine returnsInHanded_of_change (C := Try.checked) own started (by kernel_rfl) Try.func4
    (ChangeSpec.witness6 (enc := enc) (C := Try.checked) false ⟨#[], #[.int .u8 0, .int .u8 0], []⟩ 8 (by kernel_rfl) (by kernel_rfl) (by kernel_rfl) (by kernel_rfl)) ?_
  intro W base args ds gs before hval0 hW hcnd _
  have hval : ∀ (j : Nat) t v, Try.f4.params[j]? = some t → args[j]? = some v → Value.okWide Try.prog W .any base t v := hval0
  have hW' := hW
  obtain ⟨p, q, hA0, hV, rfl, hfz, hnd⟩ := hW
  have hA : DataW.TrodAll enc Try.prog W 0 (fun _ => true) true Try.f4.params.toList args.toList ds p := hA0
  rw [Try.params4] at hA hval
  obtain ⟨v0, vs0, d0, ds0, p0, q0, hargs, rfl, rfl, h0, r0⟩ := trodAll_cons hA
  obtain ⟨v1, vs1, d1, ds1, p1, q1, rfl, rfl, rfl, h1, r1⟩ := trodAll_cons r0
  obtain ⟨rfl, rfl, rfl⟩ := trodAll_nil r1
  obtain rfl : args = #[v0, v1] := by cases args; simp_all
  obtain ⟨rfl, rfl⟩ := trodVars_none hV
  obtain ⟨a0, rfl, rfl, rfl, w0⟩ := open_int Try.underlying5 (hval 0 5 v0 rfl rfl) h0
  obtain ⟨a1, rfl, rfl, rfl, w1⟩ := open_int Try.underlying5 (hval 1 5 v1 rfl rfl) h1
  clear hA0 hval0
  refine (walk a0 w0 a1 w1 W).mono fun e W' ⟨he, bel⟩ => ?_
  subst he
  exact ⟨_, rfl, _, _, _, [], _, [], hW', trodAll_mk1 (shut_bool Try.underlying4 _), (trodAll_cons_mk (shut_int Try.underlying5 w0) (trodAll_cons_mk (shut_int Try.underlying5 w1) trodAll_mk0)), rfl, bel.frame _, fun h => by cases h⟩

theorem over : Rows.kindOtherRow.holds Try.pinned (OpenSpec.ofChange Rows.kindOtherSpec) :=
  OpenClaim.holds_of_wide 4 Try.f4 rfl rfl rfl rfl rfl rfl rfl ⟨rfl, rfl, rfl, rfl, rfl⟩ rfl rfl rfl rfl rfl (by kernel_rfl) Try.func4 (by kernel_rfl)
    (of_decide_eq_true (by kernel_rfl)) (by unfold Func.isWrapper; first | (rw [if_pos (by decide +kernel)]; kernel_rfl) | (rw [if_neg (by decide +kernel)]; exact ⟨rfl, rfl⟩))
    (fun os started H enc _ => lifted os started H enc)

end Go.Proofs.Ytfbcmabpaecbjab.kindOther
namespace Go.Proofs.Ytfbcmabpaecbjab
theorem kindOther_holds : Rows.KindOtherSaid := kindOther.over
#print axioms kindOther_holds
end Go.Proofs.Ytfbcmabpaecbjab
