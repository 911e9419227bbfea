/- Of of package kind returns just the set of the bytes of its class (or nothing, false), and so does the document's; neither writes anything that was there. -/
import Derived.Test.YtfbcmabpaecbjaaGather
namespace Go.Proofs.Ytfbcmabpaecbjaa
open Go.ChangeShapes Go.WideShapes Go.ChangeAt Go.RowKit

theorem kOf_no {k : Int} (h : fnum (smI k) = none) (w : World) :
    Calls Try.prog 10 #[.int .u8 k] w fun e w' => e = .returned (.tuple #[.agg #[.int .u64 0, .int .u64 0, .int .u64 0, .int .u64 0], .bool false]) ∧ Below w.heap.size w w' := by
  go_enter Try.func10, Try.ntmps10
  go_wp2_with fail
  refine (classOf_no h _).mono ?_
  rintro e w1 ⟨rfl, hb1⟩
  have b1 : Box w1 w.heap.size zeroS := (box_new w zeroS 24).below hb1 (by simp only [size_alloc]; omega)
  have o1 : Open w1 w.heap.size := (open_new w _ 24).below hb1 (by simp only [size_alloc]; omega)
  have hz : w.heap.size < w1.heap.size := by have := hb1.size; rw [size_alloc] at this; omega
  have hb : Below w.heap.size w w1 := bw_trans (bw_alloc (Below.refl _ _) _) hb1
  have bz := (b1.put4 zeroS).alloc (by rw [size_put4]; exact hz) (.cells #[.nilFunc, .bool false] 40)
  obtain ⟨c0, c1, c2, c3⟩ := b1
  obtain ⟨f0, f1, f2, f3⟩ := o1
  clear hb1
  have HZ : Hid (Box ((put4 w1 w.heap.size zeroS).alloc (.cells #[.nilFunc, .bool false] 40)) w.heap.size zeroS) := bz
  clear bz
  go_wp2
  show bodyPost _ _ _ _ _ ((put4 w1 w.heap.size zeroS).alloc (.cells #[.nilFunc, .bool false] 40))
  obtain ⟨r0, r1, r2, r3⟩ := HZ.out
  have hbl := bw_alloc (below_put4 hb (Nat.le_refl _) zeroS) (.cells #[.nilFunc, .bool false] 40)
  generalize (put4 w1 w.heap.size zeroS).alloc (.cells #[.nilFunc, .bool false] 40) = wz at *
  exact bodyPost_ret (v := .tuple #[.agg #[.int .u64 zeroS.a, .int .u64 zeroS.b, .int .u64 zeroS.c, .int .u64 zeroS.d], .bool false]) (by simp [results, Try.results10, go_sem, r0, r1, r2, r3]) rfl ⟨rfl, hbl⟩

theorem kOf_yes {k : Int} {n : Nat} (h : fnum (smI k) = some n) (w : World) :
    Calls Try.prog 10 #[.int .u8 k] w fun e w' =>
      e = .returned (.tuple #[.agg #[.int .u64 (foldS (isB k) 256).a, .int .u64 (foldS (isB k) 256).b, .int .u64 (foldS (isB k) 256).c, .int .u64 (foldS (isB k) 256).d], .bool true]) ∧ Below w.heap.size w w' := by
  have hh : Hid (∀ (c : Nat) (w : World), c < 256 → Calls Try.prog 30 #[.agg #[.func (Fn.func n) #[] #[], .bool (smI k != k)], .int .u8 c] w fun e w' => e = .returned (.bool (isB k c)) ∧ Below w.heap.size w w') := by
    intro c w _
    unfold isB
    rw [fnum_is h, ← great_is k, Bool.true_and]
    exact ghas_any h _ _ _
  go_enter Try.func10, Try.ntmps10
  go_wp2_with fail
  refine (classOf_yes h _).mono ?_
  rintro e w1 ⟨rfl, hb1⟩
  have b1 : Box w1 w.heap.size zeroS := (box_new w zeroS 24).below hb1 (by simp only [size_alloc]; omega)
  have o1 : Open w1 w.heap.size := (open_new w _ 24).below hb1 (by simp only [size_alloc]; omega)
  have hz : w.heap.size < w1.heap.size := by have := hb1.size; rw [size_alloc] at this; omega
  have hb : Below w.heap.size w w1 := bw_trans (bw_alloc (Below.refl _ _) _) hb1
  clear hb1
  go_wp2_with fail
  refine (gather_any (isB k) _ hh _).mono ?_
  rintro e w2 ⟨rfl, hb2⟩
  have b2 : Box w2 w.heap.size zeroS := (b1.alloc hz _).below hb2 (by simp only [size_alloc]; omega)
  have o2 : Open w2 w.heap.size := (o1.below (bw_alloc (Below.refl _ _) _) hz).below hb2 (by simp only [size_alloc]; omega)
  have hb' : Below w.heap.size w w2 := bw_trans (bw_alloc hb _) hb2
  obtain ⟨r0, r1, r2, r3⟩ := b2.put4 (foldS (isB k) 256)
  have R0 : Hid _ := r0
  have R1 : Hid _ := r1
  have R2 : Hid _ := r2
  have R3 : Hid _ := r3
  obtain ⟨c0, c1, c2, c3⟩ := b2
  obtain ⟨f0, f1, f2, f3⟩ := o2
  clear hb2 b1 o1 hb r0 r1 r2 r3
  go_wp2
  show bodyPost _ _ _ _ _ (put4 w2 w.heap.size (foldS (isB k) 256))
  have hbl := below_put4 hb' (Nat.le_refl _) (foldS (isB k) 256)
  have r0 := R0.out
  have r1 := R1.out
  have r2 := R2.out
  have r3 := R3.out
  clear R0 R1 R2 R3
  generalize put4 w2 w.heap.size (foldS (isB k) 256) = wz at *
  generalize foldS (isB k) 256 = s at *
  exact bodyPost_ret (v := .tuple #[.agg #[.int .u64 s.a, .int .u64 s.b, .int .u64 s.c, .int .u64 s.d], .bool true]) (by simp [results, Try.results10, go_sem, r0, r1, r2, r3]) rfl ⟨rfl, hbl⟩

/- both in one: what is no class has none -/
theorem isB_no {k : Int} (h : fnum (smI k) = none) (c : Int) : isB k c = false := by
  unfold isB
  rw [fnum_none h, Bool.false_and]
theorem fold_none {f : Int → Bool} (h : ∀ c, f c = false) : ∀ n, foldS f n = zeroS
  | 0 => rfl
  | n + 1 => by unfold foldS; rw [h n, fold_none h n]; rfl
theorem kOf_any (k : Int) (w : World) :
    Calls Try.prog 10 #[.int .u8 k] w fun e w' =>
      e = .returned (.tuple #[.agg #[.int .u64 (foldS (isB k) 256).a, .int .u64 (foldS (isB k) 256).b, .int .u64 (foldS (isB k) 256).c, .int .u64 (foldS (isB k) 256).d], .bool (knB (smI k))]) ∧ Below w.heap.size w w' := by
  cases h : fnum (smI k) with
  | none =>
    rw [fold_none (isB_no h) 256, fnum_none h]
    exact kOf_no h w
  | some n =>
    rw [fnum_is h]
    exact kOf_yes h w

set_option maxRecDepth 100000 in
theorem rOf_any (k : Int) (w : World) :
    Calls Try.prog 20 #[.int .u8 k] w fun e w' =>
      e = .returned (.tuple #[.agg #[.int .u64 (foldS (isB k) 256).a, .int .u64 (foldS (isB k) 256).b, .int .u64 (foldS (isB k) 256).c, .int .u64 (foldS (isB k) 256).d], .bool (knB (smI k))]) ∧ Below w.heap.size w w' := by
  go_enter Try.func20, Try.ntmps20
  go_wp2
  go_loopw [5] (fun i wr => ∃ j : Nat, j ≤ 256 ∧ i = .int .i64 j ∧ Inv w wr (foldS (isB k) j)) (fun i _ => 256 - (intOf i).toNat)
  case atStart => exact ⟨0, Nat.zero_le _, rfl, inv_start w 24⟩
  case round =>
    obtain ⟨j, hj, rfl, hI⟩ := hrel
    by_cases hlt : j < 256
    · cases hf : isB k j
      · have HF : Hid (foldS (isB k) (j + 1) = foldS (isB k) j) := fold_no hf
        go_wp2_with fail
        refine (rIs_any _ _ _).mono ?_
        rintro e w1 ⟨rfl, rfl⟩
        go_wp2
        go_roundw
        case rel => exact ⟨j + 1, by omega, by go_num, by rw [HF.out]; exact hI⟩
        case measure => simp [intOf]; omega
      · have HF : Hid (foldS (isB k) (j + 1) = withS (foldS (isB k) j) j) := fold_yes hf
        obtain ⟨c0, c1, c2, c3⟩ := hI.s
        go_wp2_with fail
        refine (rIs_any _ _ _).mono ?_
        rintro e w1 ⟨rfl, rfl⟩
        go_wp2_with fail
        refine (rWith_any (foldS (isB k) j) (ok_fold _ j hj) j hlt _).mono ?_
        rintro e w2 ⟨rfl, hb2⟩
        have hI2 := hI.below hb2
        obtain ⟨d0, d1, d2, d3⟩ := hI2.s
        obtain ⟨f0, f1, f2, f3⟩ := hI2.fs
        clear c0 c1 c2 c3
        go_wp2
        go_roundw
        case rel => exact ⟨j + 1, by omega, by go_num, by rw [HF.out]; exact hI2.put _⟩
        case measure => simp [intOf]; omega
    · have hk2 : j = 256 := by omega
      subst hk2
      obtain ⟨c0, c1, c2, c3⟩ := hI.s
      obtain ⟨d0, d1, d2, d3⟩ := hI.r
      obtain ⟨f0, f1, f2, f3⟩ := hI.fr
      go_wp2
      go_region_with (go_at_call 19; refine (rKnown_any _ _).mono ?_; rintro e w1 ⟨rfl, rfl⟩)
      all_goals
        go_wp2
        obtain ⟨r0, r1, r2, r3⟩ := hI.r.put4 (foldS (isB k) 256)
        have hbl := (below_put4 hI.bw (Nat.le_refl _) (foldS (isB k) 256)).drew
        show bodyPost _ _ _ _ _ (put4 _ w.heap.size (foldS (isB k) 256)).drew
        generalize put4 _ w.heap.size (foldS (isB k) 256) = wz at *
        generalize foldS (isB k) 256 = s at *
        exact bodyPost_ret (v := .tuple #[.agg #[.int .u64 s.a, .int .u64 s.b, .int .u64 s.c, .int .u64 s.d], .bool (knB (smI k))]) (by simp [results, Try.results20, go_sem, r0, r1, r2, r3]) rfl ⟨rfl, hbl⟩
end Go.Proofs.Ytfbcmabpaecbjaa
