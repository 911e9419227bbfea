/- For every byte the statement KindNamed returns true: letters and digits are both together, small and great letters are all letters, hex digits are their class, what is cut is no letter; no condition. -/
import Derived.Test.YtfbcmabpaecbjaaNamed
import Derived.ShutString
import Derived.ChangeOld
namespace Go.Proofs.Ytfbcmabpaecbjaa.kindNamed
open Go.ChangeShapes Go.WideShapes Go.ChangeAt Go.RowKit
open Go.ChangeMaps (open_string shut_string)
set_option linter.unusedVariables false

theorem own : ownKnob Try.prog.godebug = none := by kernel_rfl
theorem laidOut : laidOutB Try.prog = true := by kernel_rfl

theorem fold_or {f g h : Int → Bool} (q : ∀ c, f c = (g c || h c)) : foldS f 256 = bothS (foldS g 256) (foldS h 256) :=
  set_ext (ok_fold _ 256 (by omega)) (ok_both (ok_fold _ 256 (by omega)) (ok_fold _ 256 (by omega))) fun x hx => by
    rw [has_both, has_all _ hx, has_all _ hx, has_all _ hx, q]
theorem isB_small (c : Int) : isB 108 c = smlB c := by simp [isB, smI, grtB, bt, knB, clsB]
theorem isB_great (c : Int) : isB 117 c = grtB c := by simp [isB, smI, grtB, bt, knB, clsB]
theorem isB_hex (c : Int) : isB 120 c = hexB c := by simp [isB, smI, grtB, bt, knB, clsB]
theorem cut_no (c : Int) : pctB c = true → ladB c = false := by
  simp only [pctB, ladB, letB, smlB, grtB, digB, bt, Bool.or_eq_true, Bool.or_eq_false_iff, decide_eq_true_eq, decide_eq_false_iff_not]
  omega
set_option maxRecDepth 100000 in
set_option maxHeartbeats 1000000 in
theorem walkN (y : Nat) (hy : y < 256) (s2 s4 s5 s6 s7 : S4) (k2 : s2.ok) (k4 : s4.ok) (k5 : s5.ok) (k6 : s6.ok) (k7 : s7.ok)
    (K1 : Hid (∀ w, Calls Try.prog 9 #[.string ⟨#[97, 108, 112, 104, 97]⟩] w fun e w' => e = .returned (.tuple #[.agg #[.int .u64 (bothS s4 s5).a, .int .u64 (bothS s4 s5).b, .int .u64 (bothS s4 s5).c, .int .u64 (bothS s4 s5).d], .bool true]) ∧ Below w.heap.size w w'))
    (K2 : Hid (∀ w, Calls Try.prog 9 #[.string ⟨#[100, 105, 103, 105, 116]⟩] w fun e w' => e = .returned (.tuple #[.agg #[.int .u64 s2.a, .int .u64 s2.b, .int .u64 s2.c, .int .u64 s2.d], .bool true]) ∧ Below w.heap.size w w'))
    (K3 : Hid (∀ w, Calls Try.prog 9 #[.string ⟨#[97, 108, 110, 117, 109]⟩] w fun e w' => e = .returned (.tuple #[.agg #[.int .u64 (bothS (bothS s4 s5) s2).a, .int .u64 (bothS (bothS s4 s5) s2).b, .int .u64 (bothS (bothS s4 s5) s2).c, .int .u64 (bothS (bothS s4 s5) s2).d], .bool true]) ∧ Below w.heap.size w w'))
    (K4 : Hid (∀ w, Calls Try.prog 9 #[.string ⟨#[108, 111, 119, 101, 114]⟩] w fun e w' => e = .returned (.tuple #[.agg #[.int .u64 s4.a, .int .u64 s4.b, .int .u64 s4.c, .int .u64 s4.d], .bool true]) ∧ Below w.heap.size w w'))
    (K5 : Hid (∀ w, Calls Try.prog 9 #[.string ⟨#[117, 112, 112, 101, 114]⟩] w fun e w' => e = .returned (.tuple #[.agg #[.int .u64 s5.a, .int .u64 s5.b, .int .u64 s5.c, .int .u64 s5.d], .bool true]) ∧ Below w.heap.size w w'))
    (K6 : Hid (∀ w, Calls Try.prog 9 #[.string ⟨#[120, 100, 105, 103, 105, 116]⟩] w fun e w' => e = .returned (.tuple #[.agg #[.int .u64 s6.a, .int .u64 s6.b, .int .u64 s6.c, .int .u64 s6.d], .bool true]) ∧ Below w.heap.size w w'))
    (K7 : Hid (∀ w, Calls Try.prog 9 #[.string ⟨#[112, 117, 110, 99, 116]⟩] w fun e w' => e = .returned (.tuple #[.agg #[.int .u64 s7.a, .int .u64 s7.b, .int .u64 s7.c, .int .u64 s7.d], .bool true]) ∧ Below w.heap.size w w'))
    (K8 : Hid (∀ w, Calls Try.prog 10 #[.int .u8 120] w fun e w' => e = .returned (.tuple #[.agg #[.int .u64 s6.a, .int .u64 s6.b, .int .u64 s6.c, .int .u64 s6.d], .bool true]) ∧ Below w.heap.size w w'))
    (hp : hasS s7 y = false ∨ (hasS s7 y = true ∧ hasS (bothS (bothS s4 s5) s2) y = false)) (h4 : hasS s4 y = isB 108 y) (h5 : hasS s5 y = isB 117 y) (w : World) :
    Calls Try.prog 3 #[.int .u8 y] w fun e w' => e = .returned (.bool true) ∧ Below w.heap.size w w' := by
  have hq := eq_set
  have hr := set_refl
  have k1 := ok_both k4 k5
  have k3 := ok_both k1 k2
  go_enter Try.func3, Try.ntmps3
  go_wp2_with fail
  refine (K1.out _).mono ?_
  rintro e x1 ⟨rfl, hb⟩
  have b0 := hb
  clear hb
  go_wp2_with fail
  refine (K2.out _).mono ?_
  rintro e x2 ⟨rfl, hb⟩
  have z2 : x1.heap.size + 1 ≤ x2.heap.size := by have := hb.size; rw [size_alloc] at this; omega
  have B1 : Box x2 x1.heap.size (bothS s4 s5) := (box_new x1 _ 24).below hb (by simp only [size_alloc]; omega)
  have b0 := bw_trans (bw_alloc b0 _) hb
  clear hb
  go_wp2_with fail
  refine (K3.out _).mono ?_
  rintro e x3 ⟨rfl, hb⟩
  have z3 : x2.heap.size + 1 ≤ x3.heap.size := by have := hb.size; rw [size_alloc] at this; omega
  have B1 : Box x3 x1.heap.size (bothS s4 s5) := (B1.alloc (by omega) _).below hb (by simp only [size_alloc]; omega)
  have B2 : Box x3 x2.heap.size s2 := (box_new x2 _ 24).below hb (by simp only [size_alloc]; omega)
  have b0 := bw_trans (bw_alloc b0 _) hb
  clear hb
  go_wp2_with fail
  refine (K4.out _).mono ?_
  rintro e x4 ⟨rfl, hb⟩
  have z4 : x3.heap.size + 1 ≤ x4.heap.size := by have := hb.size; rw [size_alloc] at this; omega
  have B1 : Box x4 x1.heap.size (bothS s4 s5) := (B1.alloc (by omega) _).below hb (by simp only [size_alloc]; omega)
  have B2 : Box x4 x2.heap.size s2 := (B2.alloc (by omega) _).below hb (by simp only [size_alloc]; omega)
  have B3 : Box x4 x3.heap.size (bothS (bothS s4 s5) s2) := (box_new x3 _ 24).below hb (by simp only [size_alloc]; omega)
  have b0 := bw_trans (bw_alloc b0 _) hb
  clear hb
  go_wp2_with fail
  refine (K5.out _).mono ?_
  rintro e x5 ⟨rfl, hb⟩
  have z5 : x4.heap.size + 1 ≤ x5.heap.size := by have := hb.size; rw [size_alloc] at this; omega
  have B1 : Box x5 x1.heap.size (bothS s4 s5) := (B1.alloc (by omega) _).below hb (by simp only [size_alloc]; omega)
  have B2 : Box x5 x2.heap.size s2 := (B2.alloc (by omega) _).below hb (by simp only [size_alloc]; omega)
  have B3 : Box x5 x3.heap.size (bothS (bothS s4 s5) s2) := (B3.alloc (by omega) _).below hb (by simp only [size_alloc]; omega)
  have B4 : Box x5 x4.heap.size s4 := (box_new x4 _ 24).below hb (by simp only [size_alloc]; omega)
  have b0 := bw_trans (bw_alloc b0 _) hb
  clear hb
  go_wp2_with fail
  refine (K6.out _).mono ?_
  rintro e x6 ⟨rfl, hb⟩
  have z6 : x5.heap.size + 1 ≤ x6.heap.size := by have := hb.size; rw [size_alloc] at this; omega
  have B1 : Box x6 x1.heap.size (bothS s4 s5) := (B1.alloc (by omega) _).below hb (by simp only [size_alloc]; omega)
  have B2 : Box x6 x2.heap.size s2 := (B2.alloc (by omega) _).below hb (by simp only [size_alloc]; omega)
  have B3 : Box x6 x3.heap.size (bothS (bothS s4 s5) s2) := (B3.alloc (by omega) _).below hb (by simp only [size_alloc]; omega)
  have B4 : Box x6 x4.heap.size s4 := (B4.alloc (by omega) _).below hb (by simp only [size_alloc]; omega)
  have B5 : Box x6 x5.heap.size s5 := (box_new x5 _ 24).below hb (by simp only [size_alloc]; omega)
  have b0 := bw_trans (bw_alloc b0 _) hb
  clear hb
  go_wp2_with fail
  refine (K7.out _).mono ?_
  rintro e x7 ⟨rfl, hb⟩
  have z7 : x6.heap.size + 1 ≤ x7.heap.size := by have := hb.size; rw [size_alloc] at this; omega
  have B1 : Box x7 x1.heap.size (bothS s4 s5) := (B1.alloc (by omega) _).below hb (by simp only [size_alloc]; omega)
  have B2 : Box x7 x2.heap.size s2 := (B2.alloc (by omega) _).below hb (by simp only [size_alloc]; omega)
  have B3 : Box x7 x3.heap.size (bothS (bothS s4 s5) s2) := (B3.alloc (by omega) _).below hb (by simp only [size_alloc]; omega)
  have B4 : Box x7 x4.heap.size s4 := (B4.alloc (by omega) _).below hb (by simp only [size_alloc]; omega)
  have B5 : Box x7 x5.heap.size s5 := (B5.alloc (by omega) _).below hb (by simp only [size_alloc]; omega)
  have B6 : Box x7 x6.heap.size s6 := (box_new x6 _ 24).below hb (by simp only [size_alloc]; omega)
  have b0 := bw_trans (bw_alloc b0 _) hb
  clear hb
  go_wp2_with fail
  refine (K8.out _).mono ?_
  rintro e x8 ⟨rfl, hb⟩
  have z8 : x7.heap.size + 1 ≤ x8.heap.size := by have := hb.size; rw [size_alloc] at this; omega
  have B1 : Box x8 x1.heap.size (bothS s4 s5) := (B1.alloc (by omega) _).below hb (by simp only [size_alloc]; omega)
  have B2 : Box x8 x2.heap.size s2 := (B2.alloc (by omega) _).below hb (by simp only [size_alloc]; omega)
  have B3 : Box x8 x3.heap.size (bothS (bothS s4 s5) s2) := (B3.alloc (by omega) _).below hb (by simp only [size_alloc]; omega)
  have B4 : Box x8 x4.heap.size s4 := (B4.alloc (by omega) _).below hb (by simp only [size_alloc]; omega)
  have B5 : Box x8 x5.heap.size s5 := (B5.alloc (by omega) _).below hb (by simp only [size_alloc]; omega)
  have B6 : Box x8 x6.heap.size s6 := (B6.alloc (by omega) _).below hb (by simp only [size_alloc]; omega)
  have B7 : Box x8 x7.heap.size s7 := (box_new x7 _ 24).below hb (by simp only [size_alloc]; omega)
  have b0 := bw_trans (bw_alloc b0 _) hb
  clear hb
  go_wp2
  obtain ⟨W0, hW0⟩ : ∃ W0, W0 = x8.alloc (.cells #[.int .u64 s6.a, .int .u64 s6.b, .int .u64 s6.c, .int .u64 s6.d] 24) := ⟨_, rfl⟩
  have C1 : Box W0 x1.heap.size (bothS s4 s5) := by rw [hW0]; exact B1.alloc (by omega) _
  have C2 : Box W0 x2.heap.size s2 := by rw [hW0]; exact B2.alloc (by omega) _
  have C3 : Box W0 x3.heap.size (bothS (bothS s4 s5) s2) := by rw [hW0]; exact B3.alloc (by omega) _
  have C4 : Box W0 x4.heap.size s4 := by rw [hW0]; exact B4.alloc (by omega) _
  have C5 : Box W0 x5.heap.size s5 := by rw [hW0]; exact B5.alloc (by omega) _
  have C6 : Box W0 x6.heap.size s6 := by rw [hW0]; exact B6.alloc (by omega) _
  have C7 : Box W0 x7.heap.size s7 := by rw [hW0]; exact B7.alloc (by omega) _
  have C8 : Box W0 x8.heap.size s6 := by rw [hW0]; exact box_new _ _ _
  have hB : x8.heap.size + 1 ≤ W0.heap.size := by rw [hW0, size_alloc]; omega
  have hbW : Below w.heap.size w W0 := by rw [hW0]; exact bw_alloc b0 _
  have zw : w.heap.size ≤ x8.heap.size := b0.size
  rw [← hW0]
  have d11 := fun w' (k : Below (x8.heap.size + 1) W0 w') => (C1.below k (by omega)).1
  have d12 := fun w' (k : Below (x8.heap.size + 1) W0 w') => (C1.below k (by omega)).2.1
  have d13 := fun w' (k : Below (x8.heap.size + 1) W0 w') => (C1.below k (by omega)).2.2.1
  have d14 := fun w' (k : Below (x8.heap.size + 1) W0 w') => (C1.below k (by omega)).2.2.2
  have d21 := fun w' (k : Below (x8.heap.size + 1) W0 w') => (C2.below k (by omega)).1
  have d22 := fun w' (k : Below (x8.heap.size + 1) W0 w') => (C2.below k (by omega)).2.1
  have d23 := fun w' (k : Below (x8.heap.size + 1) W0 w') => (C2.below k (by omega)).2.2.1
  have d24 := fun w' (k : Below (x8.heap.size + 1) W0 w') => (C2.below k (by omega)).2.2.2
  have d31 := fun w' (k : Below (x8.heap.size + 1) W0 w') => (C3.below k (by omega)).1
  have d32 := fun w' (k : Below (x8.heap.size + 1) W0 w') => (C3.below k (by omega)).2.1
  have d33 := fun w' (k : Below (x8.heap.size + 1) W0 w') => (C3.below k (by omega)).2.2.1
  have d34 := fun w' (k : Below (x8.heap.size + 1) W0 w') => (C3.below k (by omega)).2.2.2
  have d41 := fun w' (k : Below (x8.heap.size + 1) W0 w') => (C4.below k (by omega)).1
  have d42 := fun w' (k : Below (x8.heap.size + 1) W0 w') => (C4.below k (by omega)).2.1
  have d43 := fun w' (k : Below (x8.heap.size + 1) W0 w') => (C4.below k (by omega)).2.2.1
  have d44 := fun w' (k : Below (x8.heap.size + 1) W0 w') => (C4.below k (by omega)).2.2.2
  have d51 := fun w' (k : Below (x8.heap.size + 1) W0 w') => (C5.below k (by omega)).1
  have d52 := fun w' (k : Below (x8.heap.size + 1) W0 w') => (C5.below k (by omega)).2.1
  have d53 := fun w' (k : Below (x8.heap.size + 1) W0 w') => (C5.below k (by omega)).2.2.1
  have d54 := fun w' (k : Below (x8.heap.size + 1) W0 w') => (C5.below k (by omega)).2.2.2
  have d61 := fun w' (k : Below (x8.heap.size + 1) W0 w') => (C6.below k (by omega)).1
  have d62 := fun w' (k : Below (x8.heap.size + 1) W0 w') => (C6.below k (by omega)).2.1
  have d63 := fun w' (k : Below (x8.heap.size + 1) W0 w') => (C6.below k (by omega)).2.2.1
  have d64 := fun w' (k : Below (x8.heap.size + 1) W0 w') => (C6.below k (by omega)).2.2.2
  have d71 := fun w' (k : Below (x8.heap.size + 1) W0 w') => (C7.below k (by omega)).1
  have d72 := fun w' (k : Below (x8.heap.size + 1) W0 w') => (C7.below k (by omega)).2.1
  have d73 := fun w' (k : Below (x8.heap.size + 1) W0 w') => (C7.below k (by omega)).2.2.1
  have d74 := fun w' (k : Below (x8.heap.size + 1) W0 w') => (C7.below k (by omega)).2.2.2
  have d81 := fun w' (k : Below (x8.heap.size + 1) W0 w') => (C8.below k (by omega)).1
  have d82 := fun w' (k : Below (x8.heap.size + 1) W0 w') => (C8.below k (by omega)).2.1
  have d83 := fun w' (k : Below (x8.heap.size + 1) W0 w') => (C8.below k (by omega)).2.2.1
  have d84 := fun w' (k : Below (x8.heap.size + 1) W0 w') => (C8.below k (by omega)).2.2.2
  clear C1 C2 C3 C4 C5 C6 C7 C8 B1 B2 B3 B4 B5 B6 B7 hW0 b0
  have hk0 : Below (x8.heap.size + 1) W0 W0 := Below.refl _ _
  go_region_held3 (fun w' => Below (x8.heap.size + 1) W0 w') (first | assumption | exact Below.drew (by assumption))
    (first
      | (go_at_call 11; refine (kBoth_any _ _ (by assumption) (by assumption) _).mono ?_; rintro e w3 ⟨rfl, hb⟩; have hk := keepB hB (by assumption) hb))
  rcases hp with hp | ⟨hp, hp2⟩
  · skip
    go_wp2_with fail
    refine (known_any _).mono ?_
    rintro e y1 ⟨rfl, hb⟩
    have hk := keepB hB (by assumption) hb
    clear hb
    go_wp2_with fail
    refine (kHas_any s7 k7 y hy _).mono ?_
    rintro e y2 ⟨rfl, hb⟩
    have hk := keepB hB (by assumption) hb
    clear hb
    go_wp2_with fail
    refine (kHas_any s4 k4 y hy _).mono ?_
    rintro e y4 ⟨rfl, hb⟩
    have hk := keepB hB (by assumption) hb
    clear hb
    go_wp2_with fail
    refine (kIs_any _ _ _).mono ?_
    rintro e y5 ⟨rfl, hb⟩
    have hk := keepB hB (by assumption) hb
    clear hb
    go_wp2_with fail
    refine (kHas_any s5 k5 y hy _).mono ?_
    rintro e y6 ⟨rfl, hb⟩
    have hk := keepB hB (by assumption) hb
    clear hb
    go_wp2_with fail
    refine (kIs_any _ _ _).mono ?_
    rintro e y7 ⟨rfl, hb⟩
    have hk := keepB hB (by assumption) hb
    clear hb
    go_wp2
    go_ret
    exact ⟨rfl, hbW.trans (Below.mono hk (by omega))⟩
  · skip
    go_wp2_with fail
    refine (known_any _).mono ?_
    rintro e y1 ⟨rfl, hb⟩
    have hk := keepB hB (by assumption) hb
    clear hb
    go_wp2_with fail
    refine (kHas_any s7 k7 y hy _).mono ?_
    rintro e y2 ⟨rfl, hb⟩
    have hk := keepB hB (by assumption) hb
    clear hb
    go_wp2_with fail
    refine (kHas_any _ k3 y hy _).mono ?_
    rintro e y3 ⟨rfl, hb⟩
    have hk := keepB hB (by assumption) hb
    clear hb
    go_wp2_with fail
    refine (kHas_any s4 k4 y hy _).mono ?_
    rintro e y4 ⟨rfl, hb⟩
    have hk := keepB hB (by assumption) hb
    clear hb
    go_wp2_with fail
    refine (kIs_any _ _ _).mono ?_
    rintro e y5 ⟨rfl, hb⟩
    have hk := keepB hB (by assumption) hb
    clear hb
    go_wp2_with fail
    refine (kHas_any s5 k5 y hy _).mono ?_
    rintro e y6 ⟨rfl, hb⟩
    have hk := keepB hB (by assumption) hb
    clear hb
    go_wp2_with fail
    refine (kIs_any _ _ _).mono ?_
    rintro e y7 ⟨rfl, hb⟩
    have hk := keepB hB (by assumption) hb
    clear hb
    go_wp2
    go_ret
    exact ⟨rfl, hbW.trans (Below.mono hk (by omega))⟩
theorem walk (a0 : Int) (w0 : (Lit.int .u8 a0).wf = true) (w : World) :
    Calls Try.prog 3 #[.int .u8 a0] w fun e w' => e = .returned (.bool true) ∧ Below w.heap.size w w' := by
  obtain ⟨y, rfl, hy⟩ := u8_range w0
  have e1 : (foldS (nmB [97, 108, 112, 104, 97]) 256) = bothS (foldS (nmB [108, 111, 119, 101, 114]) 256) (foldS (nmB [117, 112, 112, 101, 114]) 256) := fold_or fun _ => rfl
  have e3 : (foldS (nmB [97, 108, 110, 117, 109]) 256) = bothS (foldS (nmB [97, 108, 112, 104, 97]) 256) (foldS (nmB [100, 105, 103, 105, 116]) 256) := fold_or fun _ => rfl
  have e6 : foldS (isB 120) 256 = (foldS (nmB [120, 100, 105, 103, 105, 116]) 256) := fold_congr fun x _ => isB_hex x
  refine walkN y hy (foldS (nmB [100, 105, 103, 105, 116]) 256) (foldS (nmB [108, 111, 119, 101, 114]) 256) (foldS (nmB [117, 112, 112, 101, 114]) 256) (foldS (nmB [120, 100, 105, 103, 105, 116]) 256) (foldS (nmB [112, 117, 110, 99, 116]) 256) (ok_fold _ 256 (by omega)) (ok_fold _ 256 (by omega)) (ok_fold _ 256 (by omega)) (ok_fold _ 256 (by omega)) (ok_fold _ 256 (by omega)) ?_ ?_ ?_ ?_ ?_ ?_ ?_ ?_ ?_ ?_ ?_ w
  · intro w
    have := kNamed_any ⟨#[97, 108, 112, 104, 97]⟩ w
    rw [show (ByteArray.mk #[97, 108, 112, 104, 97]).toList = [97, 108, 112, 104, 97] from by rw [ByteArray.toList_eq], show nmK [97, 108, 112, 104, 97] = true from by decide] at this
    rw [e1] at this
    exact this
  · intro w
    have := kNamed_any ⟨#[100, 105, 103, 105, 116]⟩ w
    rw [show (ByteArray.mk #[100, 105, 103, 105, 116]).toList = [100, 105, 103, 105, 116] from by rw [ByteArray.toList_eq], show nmK [100, 105, 103, 105, 116] = true from by decide] at this
    exact this
  · intro w
    have := kNamed_any ⟨#[97, 108, 110, 117, 109]⟩ w
    rw [show (ByteArray.mk #[97, 108, 110, 117, 109]).toList = [97, 108, 110, 117, 109] from by rw [ByteArray.toList_eq], show nmK [97, 108, 110, 117, 109] = true from by decide] at this
    rw [e3, e1] at this
    exact this
  · intro w
    have := kNamed_any ⟨#[108, 111, 119, 101, 114]⟩ w
    rw [show (ByteArray.mk #[108, 111, 119, 101, 114]).toList = [108, 111, 119, 101, 114] from by rw [ByteArray.toList_eq], show nmK [108, 111, 119, 101, 114] = true from by decide] at this
    exact this
  · intro w
    have := kNamed_any ⟨#[117, 112, 112, 101, 114]⟩ w
    rw [show (ByteArray.mk #[117, 112, 112, 101, 114]).toList = [117, 112, 112, 101, 114] from by rw [ByteArray.toList_eq], show nmK [117, 112, 112, 101, 114] = true from by decide] at this
    exact this
  · intro w
    have := kNamed_any ⟨#[120, 100, 105, 103, 105, 116]⟩ w
    rw [show (ByteArray.mk #[120, 100, 105, 103, 105, 116]).toList = [120, 100, 105, 103, 105, 116] from by rw [ByteArray.toList_eq], show nmK [120, 100, 105, 103, 105, 116] = true from by decide] at this
    exact this
  · intro w
    have := kNamed_any ⟨#[112, 117, 110, 99, 116]⟩ w
    rw [show (ByteArray.mk #[112, 117, 110, 99, 116]).toList = [112, 117, 110, 99, 116] from by rw [ByteArray.toList_eq], show nmK [112, 117, 110, 99, 116] = true from by decide] at this
    exact this
  · intro w
    have := kOf_any 120 w
    rw [e6, show knB (smI 120) = true from by decide] at this
    exact this
  · rw [has_all _ hy, ← e1, ← e3, has_all _ hy]
    show pctB y = false ∨ (pctB y = true ∧ ladB y = false)
    cases hc : pctB y
    · exact .inl rfl
    · exact .inr ⟨rfl, cut_no y hc⟩
  · rw [has_all _ hy, isB_small]
    rfl
  · rw [has_all _ hy, isB_great]
    rfl

set_option maxRecDepth 100000 in
theorem lifted (os : Os) (started : os.Started) (H : Type) (enc : TypeId × Value → H) :
    ReturnsInHanded {} Try.checked os 3 .any (Rows.kindNamedSpec.pre6 enc Try.prog Try.f3 Rows.kindNamedRow.domain false) (Rows.kindNamedSpec.post enc Try.prog Try.f3 false true false false) := by
  refine returnsInHanded_of_change (C := Try.checked) own started (by kernel_rfl) Try.func3
    (ChangeSpec.witness6 (enc := enc) (C := Try.checked) false ⟨#[], #[.int .u8 0], []⟩ 8 (by kernel_rfl) (by kernel_rfl) (by kernel_rfl) (by kernel_rfl)) ?_
  intro W base args ds gs before hval0 hW hcnd _
  have hval : ∀ (j : Nat) t v, Try.f3.params[j]? = some t → args[j]? = some v → Value.okWide Try.prog W .any base t v := hval0
  have hW' := hW
  obtain ⟨p, q, hA0, hV, rfl, hfz, hnd⟩ := hW
  have hA : DataW.TrodAll enc Try.prog W 0 (fun _ => true) true Try.f3.params.toList args.toList ds p := hA0
  rw [Try.params3] at hA hval
  obtain ⟨v0, vs0, d0, ds0, p0, q0, hargs, rfl, rfl, h0, r0⟩ := trodAll_cons hA
  obtain ⟨rfl, rfl, rfl⟩ := trodAll_nil r0
  obtain rfl : args = #[v0] := by cases args; simp_all
  obtain ⟨rfl, rfl⟩ := trodVars_none hV
  obtain ⟨a0, rfl, rfl, rfl, w0⟩ := open_int Try.underlying5 (hval 0 5 v0 rfl rfl) h0
  clear hA0 hval0
  refine (walk a0 w0 W).mono fun e W' ⟨he, bel⟩ => ?_
  subst he
  exact ⟨_, rfl, _, _, _, [], _, [], hW', trodAll_mk1 (shut_bool Try.underlying4 _), (trodAll_cons_mk (shut_int Try.underlying5 w0) trodAll_mk0), rfl, bel.frame _, fun h => by cases h⟩

theorem over : Rows.kindNamedRow.holds Try.pinned (OpenSpec.ofChange Rows.kindNamedSpec) :=
  OpenClaim.holds_of_wide 3 Try.f3 rfl rfl rfl rfl rfl rfl rfl ⟨rfl, rfl, rfl, rfl, rfl⟩ rfl rfl rfl rfl rfl (by kernel_rfl) Try.func3 (by kernel_rfl)
    (of_decide_eq_true (by kernel_rfl)) (by unfold Func.isWrapper; first | (rw [if_pos (by decide +kernel)]; kernel_rfl) | (rw [if_neg (by decide +kernel)]; exact ⟨rfl, rfl⟩))
    (fun os started H enc _ => lifted os started H enc)

end Go.Proofs.Ytfbcmabpaecbjaa.kindNamed
namespace Go.Proofs.Ytfbcmabpaecbjaa
theorem kindNamed_holds : Rows.KindNamedSaid := kindNamed.over
#print axioms kindNamed_holds
end Go.Proofs.Ytfbcmabpaecbjaa
