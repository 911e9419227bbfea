/- Texts that the proof of the law stands on: CQ, CV, CP, CW, CU. -/
import Derived.Test.YtaefeakmlgjonaaGreatPartA
import Derived.Lib.MinMax
import Derived.Test.YtaefeakmlgjonaaGreatPartJ
import Derived.Test.YtaefeakmlgjonaaGreatPartL
import Derived.BigQuiet
import Derived.Deep.RegionWith
import Derived.Deep.CutRange
import Derived.Deep.CutBlock
/- in: places in a text of so many lines. -/
namespace Go.Proofs.YtaefeakmlgjonaaGreat
open Go.ChangeShapes Go.WideShapes Go.ChangeAt Go.RowKit Go.Maps Go.MapKept
set_option linter.unusedVariables false
set_option linter.unusedSimpArgs false
set_option maxRecDepth 100000
theorem modI (x : Int) {k : Int} (hk : 0 < k) : ∃ A : Int, (max x 0).tmod k = A ∧ 0 ≤ A ∧ A < k := by
  have e : (max x 0).tmod k = (max x 0) % k := Int.tmod_eq_emod_of_nonneg (by omega)
  have h1 := Int.emod_nonneg (max x 0) (b := k) (by omega)
  have h2 := Int.emod_lt_of_pos (max x 0) hk
  exact ⟨(max x 0) % k, e, h1, h2⟩
theorem kp_frO {w w1 w2 : World} {p : Nat} (k : Kp w w1) (h : w.heap.size = p) (f : Fr (On p) w1 w2) : Kp w w2 := by
  have := f.below (B := p) (by rw [← h]; exact k.size) fun k hk e => by unfold On at e; omega
  subst h
  exact k.trans this
/-- Two blocks of six cells each, in a world: the call's own, and what it answers. -/
structure InW (p : Nat) (l : List Value) (w w1 : World) : Prop where
  sz : w.heap.size = p
  b0 : Lc 42 p l w1
  b1 : Lc 42 (p + 1) [.int .u8 0, .int .i64 0, .int .i64 0, .int .i64 0, .slice none 0 0, .bool false] w1
  kp : Kp w w1
theorem InW.set {p : Nat} {l : List Value} {w w1 : World} (h : InW p l w w1) (j : Nat) (u : Value) : InW p (l.set j u) w (w1.setCell ⟨p, j, none⟩ u) :=
  ⟨h.sz, h.b0.set j u, h.b1.other (by omega), kp_frO h.kp h.sz (fr_set p j u _)⟩
theorem InW.draw {p : Nat} {l : List Value} {w w1 : World} (h : InW p l w w1) (q : Nat) : InW p l w (w1.drewN q) :=
  ⟨h.sz, h.b0.kp (kp_drewN _ _), h.b1.kp (kp_drewN _ _), kp_trans h.kp (kp_drewN _ _)⟩
theorem InW.cells {p : Nat} {u0 u1 u2 u3 u4 u5 : Value} {w w1 : World} (h : InW p [u0, u1, u2, u3, u4, u5] w w1) :
    (w1.cell? ⟨p, 0, none⟩ = some u0 ∧ w1.cell? ⟨p, 1, none⟩ = some u1 ∧ w1.cell? ⟨p, 2, none⟩ = some u2 ∧ w1.cell? ⟨p, 3, none⟩ = some u3 ∧ w1.cell? ⟨p, 5, none⟩ = some u5) ∧
    (w1.frozen? ⟨p, 0, none⟩ = false ∧ w1.frozen? ⟨p, 1, none⟩ = false ∧ w1.frozen? ⟨p, 2, none⟩ = false ∧ w1.frozen? ⟨p, 3, none⟩ = false) :=
  ⟨⟨h.b0.at (j := 0) rfl, h.b0.at (j := 1) rfl, h.b0.at (j := 2) rfl, h.b0.at (j := 3) rfl, h.b0.at (j := 5) rfl⟩, ⟨h.b0.fz 0, h.b0.fz 1, h.b0.fz 2, h.b0.fz 3⟩⟩
theorem sizeOp : (Tryz.prog.info? 42).map (·.size) = some 6 := by kernel_rfl
theorem kp_frOn {w w1 w2 : World} {p q : Nat} (k : Kp w w1) (h : w.heap.size = p) (f : Fr (On (p + q)) w1 w2) : Kp w w2 := by
  have := f.below (B := p) (by rw [← h]; exact k.size) fun k hk e => by unfold On at e; omega
  subst h
  exact k.trans this
set_option maxHeartbeats 32000000 in
theorem in_no {w : World} {kd : Nat} (hk : kd < 256) {a b c : Int} (ha : (-9223372036854775808 ≤ a ∧ a < 9223372036854775808)) (hb : (-9223372036854775808 ≤ b ∧ b < 9223372036854775808)) (hc : (-9223372036854775808 ≤ c ∧ c < 9223372036854775808)) {va : Option Addr} {vn vc : Nat} {bb : Bool} (hbb : bb = false) {n : Nat} (h1 : 1 ≤ n) (h2 : n ≤ 3000) :
    Calls Tryz.prog 19 #[.agg #[.int .u8 kd, .int .i64 a, .int .i64 b, .int .i64 c, .slice va vn vc, .bool bb], .int .i64 n] w fun e w' => ∃ A C E : Int, e = .returned (.agg #[.int .u8 kd, .int .i64 A, .int .i64 C, .int .i64 E, .slice va vn vc, .bool bb]) ∧ ((-9223372036854775808 ≤ A ∧ A < 9223372036854775808) ∧ (-9223372036854775808 ≤ C ∧ C < 9223372036854775808) ∧ (-9223372036854775808 ≤ E ∧ E < 9223372036854775808) ∧ Kp w w') := by
  obtain ⟨p, hp⟩ : ∃ p, w.heap.size = p := ⟨_, rfl⟩
  obtain ⟨W1, hW1⟩ : ∃ z, w.alloc (.cells #[.int .u8 kd, .int .i64 a, .int .i64 b, .int .i64 c, .slice va vn vc, .bool bb] 42) = z := ⟨_, rfl⟩
  have hp1 : W1.heap.size = p + 1 := by rw [← hW1, alloc_size, hp]
  obtain ⟨W2, hW2⟩ : ∃ z, W1.alloc (.cells #[.int .u8 0, .int .i64 0, .int .i64 0, .int .i64 0, .slice none 0 0, .bool false] 42) = z := ⟨_, rfl⟩
  have HI : Hid (InW p [.int .u8 kd, .int .i64 a, .int .i64 b, .int .i64 c, .slice va vn vc, .bool bb] w W2) := by
    have k1 : Kp w W1 := by rw [← hW1]; exact kp_alloc _ _
    have k2 : Kp W1 W2 := by rw [← hW2]; exact kp_alloc _ _
    have b0 : Lc 42 p [.int .u8 kd, .int .i64 a, .int .i64 b, .int .i64 c, .slice va vn vc, .bool bb] W1 := by rw [← hW1, ← hp]; exact Lc.new w [.int .u8 kd, .int .i64 a, .int .i64 b, .int .i64 c, .slice va vn vc, .bool bb] 42
    have b1 : Lc 42 (p + 1) [.int .u8 0, .int .i64 0, .int .i64 0, .int .i64 0, .slice none 0 0, .bool false] W2 := by rw [← hW2, ← hp1]; exact Lc.new W1 [.int .u8 0, .int .i64 0, .int .i64 0, .int .i64 0, .slice none 0 0, .bool false] 42
    exact ⟨hp, b0.kp k2, b1, kp_trans k1 k2⟩
  obtain ⟨⟨c0, c1, c2, c3, c5⟩, ⟨f0, f1, f2, f3⟩⟩ := HI.out.cells
  have HO : Hid ((-9223372036854775808 ≤ a ∧ a < 9223372036854775808) ∧ (-9223372036854775808 ≤ b ∧ b < 9223372036854775808) ∧ (-9223372036854775808 ≤ c ∧ c < 9223372036854775808)) := ⟨ha, hb, hc⟩
  subst hbb
  clear ha hb hc
  go_enter Tryz.func19, Tryz.ntmps19
  go_wp2_with (first | (refine wpList_load_box HI.out.b0 0 [.int .u8 kd, .int .i64 a, .int .i64 b, .int .i64 c, .slice va vn vc, .bool false] rfl 42 (.tmp 2) rfl rfl rfl _ Tryz.underlying42 rfl sizeOp ?_) | (refine wpList_store_box HI.out.b1 0 [.int .u8 kd, .int .i64 a, .int .i64 b, .int .i64 c, .slice va vn vc, .bool false] rfl 42 (.tmp 4) (.tmp 48) rfl rfl rfl (Nat.le_refl 6) sizeOp (by intro v hv; simp only [List.mem_cons, List.not_mem_nil, or_false] at hv; rcases hv with rfl | rfl | rfl | rfl | rfl | rfl <;> rfl) rfl ?_; intro w5 q1 q2 q3; have HX : Hid (Lc 42 (p + 1) [.int .u8 kd, .int .i64 a, .int .i64 b, .int .i64 c, .slice va vn vc, .bool false] w5 ∧ Kp w w5) := ⟨q1, kp_frOn HI.out.kp HI.out.sz q2⟩; clear q1 q2 q3))
  refine bodyPost_ret (results_box1 rfl rfl HX.out.1 Tryz.underlying42 rfl sizeOp) rfl ?_
  exact ⟨_, _, _, rfl, HO.out.1, HO.out.2.1, HO.out.2.2, HX.out.2⟩
set_option maxHeartbeats 32000000 in
theorem in_yes {w : World} {kd : Nat} (hk : kd < 256) {a b c : Int} (ha : (-9223372036854775808 ≤ a ∧ a < 9223372036854775808)) (hb : (-9223372036854775808 ≤ b ∧ b < 9223372036854775808)) (hc : (-9223372036854775808 ≤ c ∧ c < 9223372036854775808)) {va : Option Addr} {vn vc : Nat} {bb : Bool} (hbb : bb = true) {n : Nat} (h1 : 1 ≤ n) (h2 : n ≤ 3000) :
    Calls Tryz.prog 19 #[.agg #[.int .u8 kd, .int .i64 a, .int .i64 b, .int .i64 c, .slice va vn vc, .bool bb], .int .i64 n] w fun e w' => ∃ A C E : Int, e = .returned (.agg #[.int .u8 kd, .int .i64 A, .int .i64 C, .int .i64 E, .slice va vn vc, .bool bb]) ∧ ((-9223372036854775808 ≤ A ∧ A < 9223372036854775808) ∧ (-9223372036854775808 ≤ C ∧ C < 9223372036854775808) ∧ (-9223372036854775808 ≤ E ∧ E < 9223372036854775808) ∧ Kp w w') := by
  obtain ⟨p, hp⟩ : ∃ p, w.heap.size = p := ⟨_, rfl⟩
  obtain ⟨W1, hW1⟩ : ∃ z, w.alloc (.cells #[.int .u8 kd, .int .i64 a, .int .i64 b, .int .i64 c, .slice va vn vc, .bool bb] 42) = z := ⟨_, rfl⟩
  have hp1 : W1.heap.size = p + 1 := by rw [← hW1, alloc_size, hp]
  obtain ⟨W2, hW2⟩ : ∃ z, W1.alloc (.cells #[.int .u8 0, .int .i64 0, .int .i64 0, .int .i64 0, .slice none 0 0, .bool false] 42) = z := ⟨_, rfl⟩
  have HI : Hid (InW p [.int .u8 kd, .int .i64 a, .int .i64 b, .int .i64 c, .slice va vn vc, .bool bb] w W2) := by
    have k1 : Kp w W1 := by rw [← hW1]; exact kp_alloc _ _
    have k2 : Kp W1 W2 := by rw [← hW2]; exact kp_alloc _ _
    have b0 : Lc 42 p [.int .u8 kd, .int .i64 a, .int .i64 b, .int .i64 c, .slice va vn vc, .bool bb] W1 := by rw [← hW1, ← hp]; exact Lc.new w [.int .u8 kd, .int .i64 a, .int .i64 b, .int .i64 c, .slice va vn vc, .bool bb] 42
    have b1 : Lc 42 (p + 1) [.int .u8 0, .int .i64 0, .int .i64 0, .int .i64 0, .slice none 0 0, .bool false] W2 := by rw [← hW2, ← hp1]; exact Lc.new W1 [.int .u8 0, .int .i64 0, .int .i64 0, .int .i64 0, .slice none 0 0, .bool false] 42
    exact ⟨hp, b0.kp k2, b1, kp_trans k1 k2⟩
  obtain ⟨⟨c0, c1, c2, c3, c5⟩, ⟨f0, f1, f2, f3⟩⟩ := HI.out.cells
  have HO : Hid ((-9223372036854775808 ≤ a ∧ a < 9223372036854775808) ∧ (-9223372036854775808 ≤ b ∧ b < 9223372036854775808) ∧ (-9223372036854775808 ≤ c ∧ c < 9223372036854775808)) := ⟨ha, hb, hc⟩
  subst hbb
  obtain ⟨A, hA, hA1, hA2⟩ := modI a (k := (n : Int)) (by omega)
  obtain ⟨C1, hC1, hC11, hC12⟩ := modI b (k := (n : Int) - (1 + A) + 2) (by omega)
  obtain ⟨C2, hC2, hC21, hC22⟩ := modI b (k := (n : Int) - (1 + A) + 1) (by omega)
  obtain ⟨E, hE, hE1, hE2⟩ := modI c (k := (n : Int) + 1) (by omega)
  have hn0 : (n : Int) ≠ 0 := by omega
  have hn1 : (n : Int) - (1 + A) + 1 ≠ 0 := by omega
  have hn2 : (n : Int) - (1 + A) + 2 ≠ 0 := by omega
  have hn3 : (n : Int) + 1 ≠ 0 := by omega
  have hr : 0 ≤ A ∧ A ≤ 3000 ∧ 0 ≤ C1 ∧ C1 ≤ 3003 ∧ 0 ≤ C2 ∧ C2 ≤ 3003 ∧ 0 ≤ E ∧ E ≤ 3000 := by omega
  clear ha hb hc hA1 hA2 hC11 hC12 hC21 hC22 hE1 hE2
  go_enter Tryz.func19, Tryz.ntmps19
  go_upto_region 3 with fail
  have HJ : Hid (InW p [.int .u8 kd, .int .i64 (1 + A), .int .i64 b, .int .i64 c, .slice va vn vc, .bool true] w (W2.setCell ⟨p, 1, none⟩ (.int .i64 (1 + A)))) := HI.out.set 1 _
  obtain ⟨W3, hW3⟩ : ∃ z, W2.setCell ⟨p, 1, none⟩ (.int .i64 (1 + A)) = z := ⟨_, rfl⟩
  rw [hW3] at HJ ⊢
  clear hW3 c0 c1 c2 c3 c5 f0 f1 f2 f3 HI hW1 hW2
  obtain ⟨⟨c0, c1, c2, c3, c5⟩, ⟨f0, f1, f2, f3⟩⟩ := HJ.out.cells
  by_cases q : kd % 14 < 4
  · have d1 : decide ((kd : Int) % 14 < 4) = true := decide_eq_true (by omega)
    have d2 : decide ((kd : Int).tmod 14 < 4) = true := by rw [Int.tmod_eq_emod_of_nonneg (by omega)]; exact d1
    have d3 : decide (kd % 14 < 4) = true := decide_eq_true q
    go_upto_region 6 with fail
    have HK : Hid (InW p [.int .u8 kd, .int .i64 (1 + A), .int .i64 C1, .int .i64 c, .slice va vn vc, .bool true] w (W3.setCell ⟨p, 2, none⟩ (.int .i64 C1))) := HJ.out.set 2 _
    obtain ⟨W4, hW4⟩ : ∃ z, W3.setCell ⟨p, 2, none⟩ (.int .i64 C1) = z := ⟨_, rfl⟩
    rw [hW4] at HK ⊢
    clear hW4 c0 c1 c2 c3 c5 f0 f1 f2 f3
    obtain ⟨⟨c0, c1, c2, c3, c5⟩, ⟨f0, f1, f2, f3⟩⟩ := HK.out.cells
    go_upto_region 7 with fail
    have HL : Hid (InW p [.int .u8 kd, .int .i64 (1 + A), .int .i64 C1, .int .i64 E, .slice va vn vc, .bool true] w (W4.setCell ⟨p, 3, none⟩ (.int .i64 E))) := HK.out.set 3 _
    obtain ⟨W5, hW5⟩ : ∃ z, W4.setCell ⟨p, 3, none⟩ (.int .i64 E) = z := ⟨_, rfl⟩
    rw [hW5] at HL ⊢
    clear hW5 c0 c1 c2 c3 c5 f0 f1 f2 f3
    go_wp2_with (first | (refine wpList_load_box HL.out.b0 0 [.int .u8 kd, .int .i64 (1 + A), .int .i64 C1, .int .i64 E, .slice va vn vc, .bool true] rfl 42 (.tmp 2) rfl rfl rfl _ Tryz.underlying42 rfl sizeOp ?_) | (refine wpList_store_box HL.out.b1 0 [.int .u8 kd, .int .i64 (1 + A), .int .i64 C1, .int .i64 E, .slice va vn vc, .bool true] rfl 42 (.tmp 4) (.tmp 48) rfl rfl rfl (Nat.le_refl 6) sizeOp (by intro v hv; simp only [List.mem_cons, List.not_mem_nil, or_false] at hv; rcases hv with rfl | rfl | rfl | rfl | rfl | rfl <;> rfl) rfl ?_; intro w5 q1 q2 q3; have HX : Hid (Lc 42 (p + 1) [.int .u8 kd, .int .i64 (1 + A), .int .i64 C1, .int .i64 E, .slice va vn vc, .bool true] w5 ∧ Kp w w5) := ⟨q1, kp_frOn HL.out.kp HL.out.sz q2⟩; clear q1 q2 q3))
    refine bodyPost_ret (results_box1 rfl rfl HX.out.1 Tryz.underlying42 rfl sizeOp) rfl ?_
    exact ⟨_, _, _, rfl, by omega, by omega, by omega, HX.out.2⟩
  · have d1 : decide ((kd : Int) % 14 < 4) = false := decide_eq_false (by omega)
    have d2 : decide ((kd : Int).tmod 14 < 4) = false := by rw [Int.tmod_eq_emod_of_nonneg (by omega)]; exact d1
    have d3 : decide (kd % 14 < 4) = false := decide_eq_false q
    go_upto_region 5 with fail
    go_region
    have HK : Hid (InW p [.int .u8 kd, .int .i64 (1 + A), .int .i64 (1 + A + C2), .int .i64 c, .slice va vn vc, .bool true] w (W3.setCell ⟨p, 2, none⟩ (.int .i64 (1 + A + C2))).drew) := (HJ.out.set 2 _).draw 1
    obtain ⟨W4, hW4⟩ : ∃ z, (W3.setCell ⟨p, 2, none⟩ (.int .i64 (1 + A + C2))).drew = z := ⟨_, rfl⟩
    rw [hW4] at HK ⊢
    clear hW4 c0 c1 c2 c3 c5 f0 f1 f2 f3
    obtain ⟨⟨c0, c1, c2, c3, c5⟩, ⟨f0, f1, f2, f3⟩⟩ := HK.out.cells
    go_upto_region 7 with fail
    have HL : Hid (InW p [.int .u8 kd, .int .i64 (1 + A), .int .i64 (1 + A + C2), .int .i64 E, .slice va vn vc, .bool true] w (W4.setCell ⟨p, 3, none⟩ (.int .i64 E))) := HK.out.set 3 _
    obtain ⟨W5, hW5⟩ : ∃ z, W4.setCell ⟨p, 3, none⟩ (.int .i64 E) = z := ⟨_, rfl⟩
    rw [hW5] at HL ⊢
    clear hW5 c0 c1 c2 c3 c5 f0 f1 f2 f3
    go_wp2_with (first | (refine wpList_load_box HL.out.b0 0 [.int .u8 kd, .int .i64 (1 + A), .int .i64 (1 + A + C2), .int .i64 E, .slice va vn vc, .bool true] rfl 42 (.tmp 2) rfl rfl rfl _ Tryz.underlying42 rfl sizeOp ?_) | (refine wpList_store_box HL.out.b1 0 [.int .u8 kd, .int .i64 (1 + A), .int .i64 (1 + A + C2), .int .i64 E, .slice va vn vc, .bool true] rfl 42 (.tmp 4) (.tmp 48) rfl rfl rfl (Nat.le_refl 6) sizeOp (by intro v hv; simp only [List.mem_cons, List.not_mem_nil, or_false] at hv; rcases hv with rfl | rfl | rfl | rfl | rfl | rfl <;> rfl) rfl ?_; intro w5 q1 q2 q3; have HX : Hid (Lc 42 (p + 1) [.int .u8 kd, .int .i64 (1 + A), .int .i64 (1 + A + C2), .int .i64 E, .slice va vn vc, .bool true] w5 ∧ Kp w w5) := ⟨q1, kp_frOn HL.out.kp HL.out.sz q2⟩; clear q1 q2 q3))
    refine bodyPost_ret (results_box1 rfl rfl HX.out.1 Tryz.underlying42 rfl sizeOp) rfl ?_
    exact ⟨_, _, _, rfl, by omega, by omega, by omega, HX.out.2⟩
theorem in_any {w : World} {kd : Nat} (hk : kd < 256) {a b c : Int} (ha : (-9223372036854775808 ≤ a ∧ a < 9223372036854775808)) (hb : (-9223372036854775808 ≤ b ∧ b < 9223372036854775808)) (hc : (-9223372036854775808 ≤ c ∧ c < 9223372036854775808)) {va : Option Addr} {vn vc : Nat} (bb : Bool) {n : Nat} (h1 : 1 ≤ n) (h2 : n ≤ 3000) :
    Calls Tryz.prog 19 #[.agg #[.int .u8 kd, .int .i64 a, .int .i64 b, .int .i64 c, .slice va vn vc, .bool bb], .int .i64 n] w fun e w' => ∃ A C E : Int, e = .returned (.agg #[.int .u8 kd, .int .i64 A, .int .i64 C, .int .i64 E, .slice va vn vc, .bool bb]) ∧ ((-9223372036854775808 ≤ A ∧ A < 9223372036854775808) ∧ (-9223372036854775808 ≤ C ∧ C < 9223372036854775808) ∧ (-9223372036854775808 ≤ E ∧ E < 9223372036854775808) ∧ Kp w w') := by
  cases bb with
  | false => exact in_no hk ha hb hc rfl h1 h2
  | true => exact in_yes hk ha hb hc rfl h1 h2
end Go.Proofs.YtaefeakmlgjonaaGreat
/- A call of a Go function that does not come up alone; the call's own struct, beside a text. -/
namespace Go.Proofs.YtaefeakmlgjonaaGreat
open Go.ChangeShapes Go.WideShapes Go.ChangeAt Go.RowKit Go.Maps Go.MapKept
set_option linter.unusedVariables false
set_option linter.unusedSimpArgs false
set_option maxRecDepth 100000
theorem call_step {P : Program} {Q : Exit → Act → World → Prop} {K : Act → World → Prop} (d : Tmp) (f : FuncId) {o : Oper} {fn : Func} {a : Act} {w : World} {xs : Array Operand} {ats : Array TypeId} {vals : Array Value}
    (hop : o.op = .call { callee := .value (.func f), args := xs, argTypes := ats }) (hd : o.dst = some d) (hv : xs.map a.eval = vals)
    (hf : P.funcs[f]? = some fn) (hn : (fn.name == "runtime.NumGoroutine") = false) (hb : fn.body.isNone = false)
    (h : Calls P f vals w fun e w' => ∃ v, e = .returned v ∧ K (a.put (some d) v) w') : Oper.wp P o a w K Q := by
  obtain ⟨dst, op, type, pos, after, guard⟩ := o
  simp only at hop hd
  subst hop; subst hd
  unfold Oper.wp
  rw [execOp_call_go, show (#[] ++ xs.map a.eval ++ #[]) = vals by simp [hv], run_callGo vals w hf hn hb]
  simp only [Oper.upon]
  refine Calls.mono h ?_
  rintro e w' ⟨v, rfl, hW⟩
  exact hW
/-- Six cells of a call's own stay, whatever a text does. -/
theorem FK.op13 {B : Nat} {o o' : Tz.Own} {w w' : World} {q : Nat} {l : List Value} (h : FK B o o' w w') (b : Lc 42 q l w) (hq : o q = .free) : Lc 42 q l w' :=
  b.fr h.fr fun ⟨_, z⟩ => by
    rcases z with z | ⟨ob, q1, q2⟩
    · exact z hq
    · unfold Lc at b
      rw [b] at q1; cases q1
      rcases q2 with q | q | q | q <;> exact absurd q (by decide)
end Go.Proofs.YtaefeakmlgjonaaGreat
/- heavy of any lines and calls; in. -/
namespace Go.Proofs.YtaefeakmlgjonaaGreat
open Go.ChangeShapes Go.WideShapes Go.ChangeAt Go.RowKit Go.Maps Go.MapKept
set_option linter.unusedVariables false
set_option linter.unusedSimpArgs false
set_option maxRecDepth 100000
theorem OpL.form {B : Nat} {v : Value} {l : List Op13} {w : World} (h : OpL B v l w) : ∃ a cap, v = .slice a l.length cap ∧ l.length ≤ cap ∧ cap ≤ maxLen := by
  obtain ⟨a, cap, rfl, h1, h2, _⟩ := h
  exact ⟨a, cap, rfl, h1, h2⟩
theorem OpL.at_ {B : Nat} {a : Option Addr} {N cap : Nat} {l : List Op13} {w : World} (h : OpL B (.slice a N cap) l w) {i : Nat} {o : Op13} (hi : l[i]? = some o) :
    ∃ g off, a = some ⟨g, off, none⟩ ∧ g < B ∧ w.cell? ⟨g, off + i * 6, none⟩ = some (.int .u8 o.kd) ∧ w.cell? ⟨g, off + i * 6 + 1, none⟩ = some (.int .i64 o.a) ∧ w.cell? ⟨g, off + i * 6 + 2, none⟩ = some (.int .i64 o.b) ∧ w.cell? ⟨g, off + i * 6 + 3, none⟩ = some (.int .i64 o.c) ∧ w.cell? ⟨g, off + i * 6 + 4, none⟩ = some o.v ∧ w.cell? ⟨g, off + i * 6 + 5, none⟩ = some (.bool o.i) ∧ Sl (fun k => k < B) o.v o.ls w := by
  obtain ⟨a', cap', e, _, _, h3⟩ := h
  cases e
  obtain ⟨g, off, e, p, c, q⟩ := h3 i o hi
  exact ⟨g, off, e, p, c 0 _ rfl, c 1 _ rfl, c 2 _ rfl, c 3 _ rfl, c 4 _ rfl, c 5 _ rfl, q⟩
/-- What heavy answers. -/
structure HvR (n k : Nat) (w : World) (e : Ending) (w' : World) : Prop where
  ex : ∃ hb, e = .returned (.bool hb) ∧ (hb = false → n ≤ 2100 ∧ k ≤ 60) ∧ ∃ q, w' = w.drewN q
set_option maxHeartbeats 16000000 in
theorem heavy_any {P : Nat → Prop} {B : Nat} {v u : Value} {ls : List ByteArray} {l : List Op13} {w : World} (h : Sl P v ls w) (h' : OpL B u l w) :
    Calls Tryz.prog 9 #[v, u] w fun e w' => HvR ls.length l.length w e w' := by
  obtain ⟨a', c, rfl, h1, h2, _⟩ := h.form
  obtain ⟨ua, uc, rfl, u1, u2⟩ := h'.form
  obtain ⟨n, hn⟩ : ∃ n, ls.length = n := ⟨_, rfl⟩
  obtain ⟨K, hK⟩ : ∃ n, l.length = n := ⟨_, rfl⟩
  have HS : Hid (Sl P (.slice a' n c) ls w ∧ ls.length = n) := ⟨by rw [← hn]; exact h, hn⟩
  have HU : Hid (OpL B (.slice ua K uc) l w ∧ l.length = K) := ⟨by rw [← hK]; exact h', hK⟩
  rw [hn] at h1 ⊢
  rw [hK] at u1 ⊢
  unfold maxLen at h2 u2
  have hn9 : n ≤ 9223372036854775807 := by omega
  have hK9 : K ≤ 9223372036854775807 := by omega
  clear h h' hn hK h1 h2 u1 u2
  go_enter Tryz.func9, Tryz.ntmps9
  go_wp2_with fail
  go_loopw [5, 6] (fun v5 v6 wr => ∃ (i : Nat) (x : Int), i ≤ n ∧ v5 = .int .i64 x ∧ v6 = .int .i64 i ∧ ∃ q, wr = w.drewN q) (fun _ v6 _ => n - (intOf v6).toNat)
  case atStart => exact ⟨0, 0, Nat.zero_le _, rfl, rfl, 0, rfl⟩
  case round =>
    obtain ⟨i, x, hi, rfl, rfl, q, rfl⟩ := hrel
    by_cases hlt : i < n
    · have g1 : decide ((i : Int) < (n : Int)) = true := decide_eq_true (by omega)
      have g2 : decide (i < n) = true := decide_eq_true hlt
      obtain ⟨y, hy⟩ : ∃ x, ls[i]? = some x := ⟨_, List.getElem?_eq_getElem (by rw [HS.out.2]; exact hlt)⟩
      obtain ⟨g, off, rfl, _, e1⟩ := HS.out.1.at_ hy
      clear hy
      go_wp2_with fail
      go_roundw
      case rel => exact ⟨i + 1, _, by omega, rfl, by go_num, _, rfl⟩
      case measure => simp only [intOf]; omega
    · obtain rfl : i = n := by omega
      have g1 : decide ((i : Int) < (i : Int)) = false := by simp
      clear HS
      go_wp2_with fail
      go_loopw [5, 7, 8] (fun v5 v7 _ wr => ∃ (j : Nat) (x : Int), j ≤ K ∧ v5 = .int .i64 x ∧ v7 = .int .i64 j ∧ ∃ q, wr = w.drewN q) (fun _ v7 _ _ => K - (intOf v7).toNat)
      case atStart => exact ⟨0, x, Nat.zero_le _, rfl, rfl, _, rfl⟩
      case round =>
        obtain ⟨j, s, hj, rfl, rfl, q, rfl⟩ := hrel
        by_cases p : j < K
        · have d3 : decide ((j : Int) < (K : Int)) = true := decide_eq_true (by omega)
          have d4 : decide (j < K) = true := decide_eq_true (by omega)
          obtain ⟨o, ho⟩ : ∃ o, l[j]? = some o := ⟨_, List.getElem?_eq_getElem (by rw [HU.out.2]; exact p)⟩
          obtain ⟨g, off, rfl, _, _, _, _, _, c4, _, hd⟩ := HU.out.1.at_ ho
          obtain ⟨b, cp, hv, z1, z2, _⟩ := hd.form
          obtain ⟨m, hm⟩ : ∃ m, o.ls.length = m := ⟨_, rfl⟩
          rw [hv, hm] at c4
          have HD : Hid (Sl (fun k => k < B) (.slice b m cp) o.ls w ∧ o.ls.length = m) := ⟨by rw [hv, hm] at hd; exact hd, hm⟩
          have hm9 : m ≤ 9223372036854775807 := by unfold maxLen at z2; omega
          clear hm hd hv ho z1 z2
          go_wp2_with fail
          go_loopw [5, 8] (fun v5 v8 wr => ∃ (k : Nat) (s : Int), k ≤ m ∧ v5 = .int .i64 s ∧ v8 = .int .i64 k ∧ ∃ q, wr = w.drewN q) (fun _ v8 _ => m - (intOf v8).toNat)
          case atStart => exact ⟨0, s, Nat.zero_le _, rfl, rfl, _, rfl⟩
          case round =>
            obtain ⟨k, s, hk, rfl, rfl, q, rfl⟩ := hrel
            by_cases p2 : k < m
            · have d5 : decide ((k : Int) < (m : Int)) = true := decide_eq_true (by omega)
              have d6 : decide (k < m) = true := decide_eq_true (by omega)
              obtain ⟨y, hy⟩ : ∃ x, o.ls[k]? = some x := ⟨_, List.getElem?_eq_getElem (by rw [HD.out.2]; exact p2)⟩
              obtain ⟨g', off', rfl, _, e1⟩ := HD.out.1.at_ hy
              clear hy
              go_wp2_with fail
              go_roundw
              case rel => exact ⟨k + 1, _, by omega, rfl, by go_num, _, rfl⟩
              case measure => simp only [intOf]; omega
            · obtain rfl : k = m := by omega
              have d5 : decide ((k : Int) < (k : Int)) = false := by simp
              go_wp2_with fail
              go_roundw
              case rel => exact ⟨j + 1, _, by omega, rfl, by go_num, _, rfl⟩
              case measure => simp only [intOf]; omega
        · obtain rfl : j = K := by omega
          have d3 : decide ((j : Int) < (j : Int)) = false := by simp
          clear HU
          by_cases z : 2100 < i
          · have d5 : decide ((i : Int) > 2100) = true := decide_eq_true (by omega)
            have d6 : decide ((2100 : Int) < (i : Int)) = true := decide_eq_true (by omega)
            have d7 : decide (2100 < i) = true := decide_eq_true z
            go_wp2_with fail
            go_ret
            exact ⟨⟨_, rfl, (fun h => by first | cases h | (simp at h)), _, rfl⟩⟩
          · have d5 : decide ((i : Int) > 2100) = false := decide_eq_false (by omega)
            have d6 : decide ((2100 : Int) < (i : Int)) = false := decide_eq_false (by omega)
            have d7 : decide (2100 < i) = false := decide_eq_false z
            by_cases y : 60 < j
            · have d8 : decide ((j : Int) > 60) = true := decide_eq_true (by omega)
              have d9 : decide ((60 : Int) < (j : Int)) = true := decide_eq_true (by omega)
              have d10 : decide (60 < j) = true := decide_eq_true y
              go_wp2_with fail
              go_ret
              exact ⟨⟨_, rfl, (fun h => by first | cases h | (simp at h)), _, rfl⟩⟩
            · have d8 : decide ((j : Int) > 60) = false := decide_eq_false (by omega)
              have d9 : decide ((60 : Int) < (j : Int)) = false := decide_eq_false (by omega)
              have d10 : decide (60 < j) = false := decide_eq_false y
              by_cases y2 : 20000 < s
              · have d11 : decide (s > 20000) = true := decide_eq_true y2
                have d12 : decide (20000 < s) = true := decide_eq_true y2
                go_wp2_with fail
                go_ret
                exact ⟨⟨_, rfl, (fun _ => by omega), _, rfl⟩⟩
              · have d11 : decide (s > 20000) = false := decide_eq_false y2
                have d12 : decide (20000 < s) = false := decide_eq_false y2
                go_wp2_with fail
                go_ret
                exact ⟨⟨_, rfl, (fun _ => by omega), _, rfl⟩⟩
end Go.Proofs.YtaefeakmlgjonaaGreat
/- What BufMarks asks of a text: its mark q, and the line at it. -/
namespace Go.Proofs.YtaefeakmlgjonaaGreat
open Go.ChangeShapes Go.WideShapes Go.ChangeAt Go.RowKit Go.Maps Go.MapKept
set_option linter.unusedVariables false
set_option linter.unusedSimpArgs false
set_option maxRecDepth 100000
section
variable {B b M k : Nat} {o : Tz.Own} {a : At} {s : BS} {w w1 : World}
theorem Clm.kp (h : Clm B b o M a s k w) (kk : Kp w w1) : Clm B b o M a s k w1 := ⟨h.bf.kp_ kk, h.fine, h.op, h.sm, h.nx, h.ok⟩
theorem Clm.upM (h : Clm B b o M a s k w) {M' : Nat} (hM : M ≤ M') {k' : Nat} (hk : k ≤ k') : Clm B b o M' a s k' w := ⟨h.bf.upM hM, h.fine, h.op, h.sm, by have := h.nx; omega, h.ok⟩
theorem Opn.kp (h : Opn B b o M a s k w) (kk : Kp w w1) : Opn B b o M a s k w1 := ⟨h.bf.kp_ kk, h.fine, h.op, h.sm, h.nx, h.ok⟩
theorem OpL.range {g off N cap i : Nat} {l : List Op13} {c : Op13} (h : OpL B (.slice (some ⟨g, off, none⟩) N cap) l w) (hi : l[i]? = some c) : w.rangeAt g (off + i * 6) c.row := by
  obtain ⟨a', cap', e, _, _, h3⟩ := h
  cases e
  obtain ⟨g', off', e, _, c, _⟩ := h3 _ _ hi
  cases e
  exact fun j v hj => c j v hj
theorem q_get (h : Bf B b o M a s w) (F : Fine (s.ls.length : Int) s) : ∃ (c f : Int) (y : ByteArray) (bo : Bool), (0 ≤ c ∧ c ≤ 2000) ∧ (f = 0 ∨ f = 100) ∧ (f = 0 → s.mf 113 = some c ∧ 1 ≤ c ∧ c ≤ (s.ls.length : Int) ∧ s.ls[(c - 1).toNat]? = some y) ∧ (f ≠ 0 → s.mf 113 = none) ∧
    (∀ z, Kp w z → Calls Tryz.prog 21 #[.pointer (some ⟨b, 1, none⟩), .int .u8 113] z fun e w' => e = .returned (.tuple #[.int .i64 c, .int .u16 f]) ∧ w' = z) ∧
    (∀ z, Kp w z → Calls Tryz.prog 22 #[.pointer (some ⟨b, 0, none⟩), .int .i64 c] z fun e w' => e = .returned (.tuple #[.string y, .bool bo]) ∧ ∃ q, w' = z.drewN q) := by
  have hl := F.ls.2.1
  cases hm : s.mf 113 with
  | none =>
    refine ⟨0, 100, ⟨#[]⟩, false, by decide, .inr rfl, fun e => absurd e (by decide), fun _ => rfl, fun z kz => ?_, fun z kz => bline_none (h.kp_ kz) (by omega)⟩
    have := bmget_any (h.kp_ kz) F.md (x := 113) (by decide) (by decide)
    rw [hm] at this; exact this
  | some c =>
    have hb := F.mb _ _ hm
    obtain ⟨y, hy⟩ : ∃ y, s.ls[(c - 1).toNat]? = some y := ⟨_, List.getElem?_eq_getElem (by omega)⟩
    refine ⟨c, 0, y, true, ⟨by omega, by omega⟩, .inl rfl, fun _ => ⟨rfl, hb.1, hb.2, hy⟩, fun e => absurd rfl e, fun z kz => ?_, fun z kz => ?_⟩
    · have := bmget_any (h.kp_ kz) F.md (x := 113) (by decide) (by decide)
      rw [hm] at this; exact this
    · have := bline_ok (h.kp_ kz) (by omega) hy
      rw [show (((c - 1).toNat : Nat) : Int) + 1 = c by omega] at this; exact this
end
end Go.Proofs.YtaefeakmlgjonaaGreat
/- BufMarks, walked. -/
namespace Go.Proofs.YtaefeakmlgjonaaGreat
open Go.ChangeShapes Go.WideShapes Go.ChangeAt Go.RowKit Go.Maps Go.MapKept
set_option linter.unusedVariables false
set_option linter.unusedSimpArgs false
set_option maxRecDepth 100000
theorem kp_setsB {w w1 w2 : World} {q o : Nat} {vs : List Value} (k : Kp w w1) (h : w.heap.size ≤ q) (e : w1.setCells q o vs = w2) : Kp w w2 := by
  subst e
  exact k.trans ((fr_sets q vs o w1).below k.size fun j hj z => by unfold On at z; omega)
theorem setE_ok {x line : Int} (h1 : 97 ≤ x ∧ x ≤ 122) (h2 : 1 ≤ line ∧ line ≤ 2147483647) : Mz.setE x line = 0 := by
  unfold Mz.setE; rw [if_neg (by omega), if_neg (by omega)]
theorem fine_set {s : BS} {N : Int} (F : Fine N s) {x line : Int} (h1 : 97 ≤ x ∧ x ≤ 122) (h2 : 1 ≤ line ∧ line ≤ N) : Fine N { s with mf := Mz.setF s.mf x line } := by
  have hd : ∀ y c, Mz.setF s.mf x line y = some c → (y = x ∧ c = line) ∨ s.mf y = some c := fun y c h => by
    unfold Mz.setF at h
    split at h
    · unfold Mz.setM at h
      split at h
      · rename_i e; cases h; exact .inl ⟨e, rfl⟩
      · exact .inr h
    · exact .inr h
  exact ⟨F.ls, F.cur, F.tx, F.op, F.ap, (fun y c h => by rcases hd y c h with ⟨rfl, _⟩ | h; exact h1; exact F.md y c h), F.kd, (fun y c h => by rcases hd y c h with ⟨_, rfl⟩ | h; exact h2; exact F.mb y c h), F.kcur⟩
theorem clm_new {B b : Nat} {o : Tz.Own} {a : At} {ls : List ByteArray} {w : World} {x : Int} (h : Bf B b o 50000 a { newS ls 50 with mf := Mz.setF (newS ls 50).mf 113 (1 + x) } w) (hl : Ln ls) (hx : 0 ≤ x ∧ x < (ls.length : Int)) : Clm B b o 50000 a { newS ls 50 with mf := Mz.setF (newS ls 50).mf 113 (1 + x) } 1 w := by
  have e1 : (newS ls 50).ls = ls := one1_eq (by omega)
  have f0 := fine_new hl 50
  refine ⟨h, fine_set f0 (by decide) ⟨by omega, by rw [e1]; omega⟩, rfl, ?_, (by show (1 : Int) ≤ ((1 : Nat) : Int); decide), fun y => ?_⟩
  · intro y s hy
    have hy' : look (first 50).L y = some s := hy
    have hm := List.mem_singleton.1 (look_mem hy')
    rw [hm]; simp
  · show TxtOk (one1 ls)
    rw [one1_eq (by omega)]
    exact ⟨by omega, hl⟩
set_option maxHeartbeats 128000000 in
theorem marks_law {v u : Value} {ls : List ByteArray} {l : List Op13} {W : World} (hF : Sl (fun k => k < W.heap.size) v ls W) (x : Int) (hx : -9223372036854775808 ≤ x ∧ x < 9223372036854775808) (hO : OpL W.heap.size u l W) (hok : ∀ o ∈ l, o.ok) (hwt : ∀ o ∈ l, o.ls.length ≤ 8796093022208) : Calls Tryz.prog 4 #[v, .int .i64 x, u] W fun e w' => e = .returned (.bool true) ∧ Below W.heap.size W w' := by
  have HV : Hid _ := heavy_any hF hO
  obtain ⟨va, vc, rfl, c1, c2, _⟩ := hF.form
  obtain ⟨ua, uc, rfl, u1, u2⟩ := hO.form
  obtain ⟨n, hn⟩ : ∃ n, ls.length = n := ⟨_, rfl⟩
  obtain ⟨N, hN⟩ : ∃ n, l.length = n := ⟨_, rfl⟩
  have HF : Hid (Sl (fun k => k < W.heap.size) (.slice va n vc) ls W ∧ ls.length = n) := ⟨by rw [← hn]; exact hF, hn⟩
  have HO : Hid (OpL W.heap.size (.slice ua N uc) l W ∧ l.length = N ∧ (∀ o ∈ l, o.ok) ∧ ∀ o ∈ l, o.ls.length ≤ 8796093022208) := ⟨by rw [← hN]; exact hO, hN, hok, hwt⟩
  rw [hn] at HV c1 ⊢
  rw [hN] at HV u1 ⊢
  unfold maxLen at c2 u2
  have hn9 : n ≤ 9223372036854775807 := by omega
  have hN9 : N ≤ 9223372036854775807 := by omega
  have e1 := eqB
  have e2 := eqB0
  have HK : Hid (∀ z, Kp W z → Calls Tryz.prog 10 #[] z fun e w' => e = .returned (.bool true) ∧ Hid (Kp W w')) := fun z kz => (bknown_any z).mono (by rintro e w' ⟨rfl, k⟩; exact ⟨rfl, kp_trans kz k⟩)
  have hvc : (n : Int) ≤ (vc : Int) ∧ (vc : Int) ≤ 9223372036854775807 := by omega
  clear hF hO hok hwt hn hN c1 c2 u1 u2
  go_enter Tryz.func4, Tryz.ntmps4
  go_wp2_with fail
  refine Calls.mono HV.out ?_
  rintro e w1 ⟨⟨hv, rfl, hh, q1, rfl⟩⟩
  clear HV
  cases hv with
  | true =>
    clear hh
    go_wp2_with fail
    refine Calls.mono (HK.out _ (kp_drewN _ _)) ?_
    rintro e w2 ⟨rfl, H2⟩
    clear HK
    go_wp2_with fail
    go_ret
    exact ⟨rfl, H2.out⟩
  | false =>
    obtain ⟨hn21, hN60⟩ := hh rfl
    clear hh
    by_cases h0 : n = 0
    · have d0 : ((n : Int) == 0) = true := by subst h0; rfl
      go_wp2_with fail
      refine Calls.mono (HK.out _ (kp_drewN _ _)) ?_
      rintro e w2 ⟨rfl, H2⟩
      clear HK
      go_wp2_with fail
      go_ret
      exact ⟨rfl, H2.out⟩
    have d0 : ((n : Int) == 0) = false := beq_eq_false_iff_ne.2 (by omega)
    go_wp2_with fail
    refine Calls.mono (HK.out _ (kp_drewN _ _)) ?_
    rintro e w2 ⟨rfl, H2⟩
    have hsl2 := HF.out.1.kp H2.out
    clear HK
    by_cases hE : beyondE (ls.length : Int) ls = 0
    · have HN : Hid _ := bnew_yes (B := W.heap.size) H2.out.size hsl2 (n := 50) (by decide) hE
      have HLn : Hid (Ln ls) := ln_new hE
      clear hE hsl2
      go_wp2_with fail
      refine Calls.mono HN.out ?_
      rintro e w3 ⟨b, rfl, k3, o, a, h3, _⟩
      have H3 : Hid (Kp W w3 ∧ Bf W.heap.size b o 50000 a (newS ls 50) w3) := ⟨kp_trans H2.out k3, h3⟩
      clear HN k3 h3 H2
      obtain ⟨P, hP, hP0, hP1⟩ := modI x (k := (n : Int)) (by omega)
      have hn0 : (n : Int) ≠ 0 := by omega
      have hwP : IntKind.i64.wrap (1 + P) = 1 + P := by rw [IntKind.wrap_i64]; omega
      go_upto_region 6 with fail
      have HSet : Hid (∀ z, Kp w3 z → Calls Tryz.prog 18 #[.pointer (some ⟨b, 1, none⟩), .int .u8 113, .int .i64 (1 + P)] z fun e w' => e = .returned (.int .u16 0) ∧ Hid (Clm W.heap.size b o 50000 a { newS ls 50 with mf := Mz.setF (newS ls 50).mf 113 (1 + P) } 1 w' ∧ Kp W w')) := fun z kz => by
        refine (bmset_any (H3.out.2.kp_ kz) (fun x c h => by cases h) (x := 113) (by decide) (by decide) (1 + P)).mono ?_
        rintro e w' ⟨rfl, q1, q2⟩
        rw [setE_ok (by decide) (by omega)]
        have kz' := kp_trans H3.out.1 kz
        exact ⟨rfl, clm_new q1 HLn.out ⟨hP0, by rw [HF.out.2]; exact hP1⟩, kz'.trans (q2.below kz'.size)⟩
      go_cut [] from 52 (fun wx => ∃ s, Hid (Clm W.heap.size b o 50000 a s 1 wx ∧ Kp W wx))
      case first =>
        clear HO HF H3 HLn
        refine wp_region_noPanic ?_
        refine wp_region_held_drew (S := fun _ => True) (by kernel_rfl) (trivial) (fun hHeld => ?_)
        refine takeAt 0 (some 52) ?_ rfl rfl (by kernel_rfl) (by kernel_rfl) (by kernel_rfl) (fun _ _ _ h => h) (Or.inl ⟨by rfl, ?_⟩) hHeld ?_
        rotate_left
        · intro w hSw
          go_simp <;> with_reducible rfl
        try simp only [Act.put, List.setIfInBounds_toArray, List.set_cons_zero, List.set_cons_succ]
        refine takeAt 2 (some 54) ?_ rfl rfl (by kernel_rfl) (by kernel_rfl) (by kernel_rfl) (fun _ _ _ h => h) (Or.inl ⟨by rfl, ?_⟩) hHeld ?_
        rotate_left
        · intro w hSw
          go_simp <;> with_reducible rfl
        try simp only [Act.put, List.setIfInBounds_toArray, List.set_cons_zero, List.set_cons_succ]
        refine takeAt 3 (some 55) ?_ rfl rfl (by kernel_rfl) (by kernel_rfl) (by kernel_rfl) (fun _ _ _ h => h) (Or.inl ⟨by rfl, ?_⟩) hHeld ?_
        rotate_left
        · intro w hSw
          go_simp <;> with_reducible rfl
        try simp only [Act.put, List.setIfInBounds_toArray, List.set_cons_zero, List.set_cons_succ]
        refine takeAt 4 (some 56) ?_ rfl rfl (by kernel_rfl) (by kernel_rfl) (by kernel_rfl) (fun _ _ _ h => h) (Or.inl ⟨by rfl, ?_⟩) hHeld ?_
        rotate_left
        · intro w hSw
          go_simp <;> with_reducible rfl
        try simp only [Act.put, List.setIfInBounds_toArray, List.set_cons_zero, List.set_cons_succ]
        refine takeAt 5 (some 57) ?_ rfl rfl (by kernel_rfl) (by kernel_rfl) (by kernel_rfl) (fun _ _ _ h => h) (Or.inl ⟨by rfl, ?_⟩) hHeld ?_
        rotate_left
        · intro w hSw
          go_simp <;> with_reducible rfl
        try simp only [Act.put, List.setIfInBounds_toArray, List.set_cons_zero, List.set_cons_succ]
        refine takeAt 6 (some 58) ?_ rfl rfl (by kernel_rfl) (by kernel_rfl) (by kernel_rfl) (fun _ _ _ h => h) (Or.inl ⟨by rfl, ?_⟩) hHeld ?_
        rotate_left
        · intro w hSw
          go_simp <;> with_reducible rfl
        try simp only [Act.put, List.setIfInBounds_toArray, List.set_cons_zero, List.set_cons_succ]
        refine takeAt 7 (some 59) ?_ rfl rfl (by kernel_rfl) (by kernel_rfl) (by kernel_rfl) (fun _ _ _ h => h) (Or.inl ⟨by rfl, ?_⟩) hHeld ?_
        rotate_left
        · intro w hSw
          go_simp <;> with_reducible rfl
        try simp only [Act.put, List.setIfInBounds_toArray, List.set_cons_zero, List.set_cons_succ]
        refine callAt 1 53 17 (vals := #[.pointer (some ⟨b, 0, none⟩)]) (by kernel_rfl) rfl rfl rfl rfl (by simp [Act.eval]) Tryz.func17 (by kernel_rfl) (by kernel_rfl) ?_
        refine Calls.mono (bmarks_any _ _) ?_
        rintro e w4 ⟨rfl, rfl⟩
        refine ⟨_, rfl, trivial, fun hHeld => ?_⟩
        try simp only [Act.put, List.setIfInBounds_toArray, List.set_cons_zero, List.set_cons_succ]
        refine callAt 8 60 18 (vals := #[.pointer (some ⟨b, 1, none⟩), .int .u8 113, .int .i64 (1 + P)]) (by kernel_rfl) rfl rfl rfl rfl (by simp [Act.eval]) Tryz.func18 (by kernel_rfl) (by kernel_rfl) ?_
        refine Calls.mono (HSet.out _ (kp_drew _)) ?_
        rintro e w5 ⟨rfl, HX⟩
        clear HSet
        refine ⟨_, rfl, trivial, fun hHeld => ?_⟩
        try simp only [Act.put, List.setIfInBounds_toArray, List.set_cons_zero, List.set_cons_succ]
        refine wpAnyH_done (by kernel_rfl) ?_ _
        refine NoPanic.normal ?_
        go_wp2_with fail
        go_meet
        exact ⟨_, HX⟩
      case rest =>
      obtain ⟨s0, HS0⟩ := hcut
      clear HSet H3 HLn HF hP hP0 hP1 hn0 hwP
      go_wp2_with fail
      go_loopw [9] (fun v9 wr => ∃ (i : Nat) (o : Tz.Own) (a : At) (s : BS), i ≤ N ∧ v9 = .int .i64 i ∧ Hid (Clm W.heap.size b o (50000 + 180000 * i) a s (1 + i) wr ∧ Kp W wr)) (fun v9 _ => N - (intOf v9).toNat)
      case atStart => exact ⟨0, o, a, s0, Nat.zero_le _, rfl, HS0⟩
      case round =>
        clear HS0
        obtain ⟨i, o, a, s, hi, rfl, HL⟩ := hrel
        by_cases hlt : i < N
        · have g1 : decide ((i : Int) < (N : Int)) = true := decide_eq_true (by omega)
          have g2 : decide (i < N) = true := decide_eq_true hlt
          obtain ⟨oc, hoc⟩ : ∃ o, l[i]? = some o := ⟨_, List.getElem?_eq_getElem (by rw [HO.out.2.1]; exact hlt)⟩
          obtain ⟨g, off, rfl, hgB, _, _, _, _, _, _, hsl⟩ := (HO.out.1.below HL.out.2).at_ hoc
          have hmem := List.mem_of_getElem? hoc
          obtain ⟨hkd, ha, hb, hc⟩ := HO.out.2.2.1 oc hmem
          have hw8 := HO.out.2.2.2 oc hmem
          have hrg : ∀ z, Kp wr z → z.rangeAt g (off + i * 6) oc.row := fun z kz => (HO.out.1.below (kp_trans HL.out.2 kz)).range hoc
          clear hoc hmem
          obtain ⟨kd, a0, b0, c0, v1, ls1, bb⟩ := oc
          simp only at hkd ha hb hc hw8 hsl
          obtain ⟨va1, vc1, rfl, _⟩ := hsl.form
          obtain ⟨vn1, hvn1⟩ : ∃ m, ls1.length = m := ⟨_, rfl⟩
          have HSl : Hid (Sl (fun k => k < W.heap.size) (.slice va1 vn1 vc1) ls1 wr ∧ ls1.length ≤ 8796093022208) := ⟨by rw [← hvn1]; exact hsl, hw8⟩
          have HR : Hid (∀ z, Kp wr z → z.rangeAt g (off + i * 6) [.int .u8 kd, .int .i64 a0, .int .i64 b0, .int .i64 c0, .slice va1 vn1 vc1, .bool bb]) := by rw [← hvn1]; exact hrg
          clear hsl hvn1 hrg hw8
          have hL1 := HL.out.1.fine.ls.1
          have hL2 := HL.out.1.fine.ls.2.1
          obtain ⟨L, hL⟩ : ∃ L, s.ls.length = L := ⟨_, rfl⟩
          rw [hL] at hL1 hL2
          have HLn : Hid (∀ z, Kp wr z → Calls Tryz.prog 20 #[.pointer (some ⟨b, 0, none⟩)] z fun e w' => e = .returned (.int .i64 L) ∧ Kp z w') := fun z kz => by
            have := blen_any (HL.out.1.bf.kp_ kz)
            rw [hL] at this
            exact this.mono (by rintro e w' ⟨rfl, m, rfl⟩; exact ⟨rfl, kp_drewN _ _⟩)
          have HIn : Hid (∀ z, Calls Tryz.prog 19 #[.agg #[.int .u8 kd, .int .i64 a0, .int .i64 b0, .int .i64 c0, .slice va1 vn1 vc1, .bool bb], .int .i64 L] z fun e w' => ∃ A C E : Int, e = .returned (.agg #[.int .u8 kd, .int .i64 A, .int .i64 C, .int .i64 E, .slice va1 vn1 vc1, .bool bb]) ∧ ((-9223372036854775808 ≤ A ∧ A < 9223372036854775808) ∧ (-9223372036854775808 ≤ C ∧ C < 9223372036854775808) ∧ (-9223372036854775808 ≤ E ∧ E < 9223372036854775808) ∧ Kp z w')) := fun z => in_any hkd ha hb hc bb hL1 (by omega)
          clear hkd ha hb hc
          go_upto_region 10 with fail
          go_cut [10] from 61 to 166 (fun v10 wx => ∃ (q : Nat) (A C E : Int), v10 = .pointer (some ⟨q, 0, none⟩) ∧ Hid (Lc 42 q [.int .u8 kd, .int .i64 A, .int .i64 C, .int .i64 E, .slice va1 vn1 vc1, .bool bb] wx ∧ Kp wr wx ∧ wr.heap.size ≤ q ∧ (-9223372036854775808 ≤ A ∧ A < 9223372036854775808) ∧ (-9223372036854775808 ≤ C ∧ C < 9223372036854775808) ∧ (-9223372036854775808 ≤ E ∧ E < 9223372036854775808)))
          case first =>
            refine wp_region_noPanic ?_
            refine wp_region_held_drew (S := fun z => Kp wr z) (by kernel_rfl) (kp_drew _) (fun hHeld => ?_)
            refine takeAt 0 (some 67) ?_ rfl rfl (by kernel_rfl) (by kernel_rfl) (by kernel_rfl) (fun _ _ _ h => h) (Or.inl ⟨by rfl, ?_⟩) hHeld ?_
            rotate_left
            · intro w hSw
              go_simp <;> with_reducible rfl
            try simp only [Act.put, List.setIfInBounds_toArray, List.set_cons_zero, List.set_cons_succ]
            refine takeAt 1 (some 68) ?_ rfl rfl (by kernel_rfl) (by kernel_rfl) (by kernel_rfl) (fun _ _ _ h => h) (Or.inl ⟨by rfl, ?_⟩) hHeld ?_
            rotate_left
            · intro w hSw
              go_simp <;> with_reducible rfl
            try simp only [Act.put, List.setIfInBounds_toArray, List.set_cons_zero, List.set_cons_succ]
            refine takeAt 2 (some 69) ?_ rfl rfl (by kernel_rfl) (by kernel_rfl) (by kernel_rfl) (fun _ _ _ h => h) (Or.inl ⟨by rfl, ?_⟩) hHeld ?_
            rotate_left
            · intro w hSw
              go_simp <;> with_reducible rfl
            try simp only [Act.put, List.setIfInBounds_toArray, List.set_cons_zero, List.set_cons_succ]
            refine takeAt 3 (some 70) (.agg #[.int .u8 kd, .int .i64 a0, .int .i64 b0, .int .i64 c0, .slice va1 vn1 vc1, .bool bb]) rfl rfl (by kernel_rfl) (by kernel_rfl) (by kernel_rfl) (fun _ _ _ h => h) (yieldsIf_load_mid (by rfl) 42 (.tmp 69) rfl g (off + i * 6) rfl [.int .u8 kd, .int .i64 a0, .int .i64 b0, .int .i64 c0, .slice va1 vn1 vc1, .bool bb] _ (fun z hz => HR.out z hz) Tryz.underlying42 rfl sizeOp) hHeld ?_
            try simp only [Act.put, List.setIfInBounds_toArray, List.set_cons_zero, List.set_cons_succ]
            refine takeAt 4 (some 71) ?_ rfl rfl (by kernel_rfl) (by kernel_rfl) (by kernel_rfl) (fun _ _ _ h => h) (Or.inl ⟨by rfl, ?_⟩) hHeld ?_
            rotate_left
            · intro w hSw
              go_simp <;> with_reducible rfl
            try simp only [Act.put, List.setIfInBounds_toArray, List.set_cons_zero, List.set_cons_succ]
            obtain ⟨x0, hx0⟩ : ∃ z, wr.drew = z := ⟨_, rfl⟩
            rw [hx0] at hHeld ⊢
            clear hx0
            refine wpAnyH_ready (rs := [5, 7]) (by kernel_rfl) (by simp) ?_
            refine AllReadyH.cons rfl (fun K hK => ?_) (AllReadyH.cons rfl (fun K hK => ?_) (AllReadyH.nil))
            · rw [if_pos (by rfl)]
              refine call_step 72 20 (vals := #[.pointer (some ⟨b, 0, none⟩)]) rfl rfl (by simp [Act.eval]) Tryz.func20 (by kernel_rfl) (by kernel_rfl) ?_
              refine Calls.mono (HLn.out _ hHeld) ?_
              rintro e x1 ⟨rfl, kk⟩
              have hx1 : Kp wr x1 := kp_trans hHeld kk
              refine ⟨_, rfl, ?_⟩
              refine hK.out _ _ hx1 (fun hHeld => ?_)
              clear hK K
              try simp only [Act.put, List.setIfInBounds_toArray, List.set_cons_zero, List.set_cons_succ]
              refine wpAnyH_ready (rs := [6, 7]) (by kernel_rfl) (by simp) ?_
              refine AllReadyH.cons rfl (fun K hK => ?_) (AllReadyH.cons rfl (fun K hK => ?_) (AllReadyH.nil))
              · rw [if_pos (by rfl)]
                refine call_step 73 19 (vals := #[.agg #[.int .u8 kd, .int .i64 a0, .int .i64 b0, .int .i64 c0, .slice va1 vn1 vc1, .bool bb], .int .i64 L]) rfl rfl (by simp [Act.eval]) Tryz.func19 (by kernel_rfl) (by kernel_rfl) ?_
                refine Calls.mono (HIn.out _) ?_
                rintro e x2 ⟨A, C, E, rfl, rA, rC, rE, kk⟩
                have hx2 : Kp wr x2 := kp_trans hHeld kk
                refine ⟨_, rfl, ?_⟩
                refine hK.out _ _ hx2 (fun hHeld => ?_)
                clear hK K
                try simp only [Act.put, List.setIfInBounds_toArray, List.set_cons_zero, List.set_cons_succ]
                refine wpAnyH_ready (rs := [7]) (by kernel_rfl) (by simp) ?_
                refine AllReadyH.cons rfl (fun K hK => ?_) (AllReadyH.nil)
                go_simp
                obtain ⟨q, hq⟩ : ∃ q, x2.heap.size = q := ⟨_, rfl⟩
                obtain ⟨x3, hx⟩ : ∃ z, x2.alloc (.cells #[.int .u8 0, .int .i64 0, .int .i64 0, .int .i64 0, .slice none 0 0, .bool false] 42) = z := ⟨_, rfl⟩
                have HQ3 : Hid (Lc 42 q [.int .u8 0, .int .i64 0, .int .i64 0, .int .i64 0, .slice none 0 0, .bool false] x3 ∧ wr.heap.size ≤ q) := ⟨by rw [← hx, ← hq]; exact Lc.new x2 [.int .u8 0, .int .i64 0, .int .i64 0, .int .i64 0, .slice none 0 0, .bool false] 42, by rw [← hq]; exact hHeld.size⟩
                have hx3 : Kp wr x3 := kp_trans hHeld (by rw [← hx]; exact kp_alloc _ _)
                rw [hq, hx]
                clear hq hx
                refine hK.out _ _ hx3 (fun hHeld => ?_)
                clear hK K
                try simp only [Act.put, List.setIfInBounds_toArray, List.set_cons_zero, List.set_cons_succ]
                refine wpAnyH_ready (rs := [8]) (by kernel_rfl) (by simp) ?_
                refine AllReadyH.cons rfl (fun K hK => ?_) (AllReadyH.nil)
                rw [if_pos (by rfl)]
                refine wp_store_mid 42 (.tmp 10) (.tmp 73) rfl q 0 #[.int .u8 kd, .int .i64 A, .int .i64 C, .int .i64 E, .slice va1 vn1 vc1, .bool bb] rfl rfl (HQ3.out.1.there (Nat.le_refl 6)) sizeOp (all_oneCell_toArray (by intro v hv; simp only [List.mem_cons, List.not_mem_nil, or_false] at hv; rcases hv with rfl | rfl | rfl | rfl | rfl | rfl <;> rfl)) ?_
                obtain ⟨wz, hwz⟩ : ∃ z, x3.setCells q 0 [.int .u8 kd, .int .i64 A, .int .i64 C, .int .i64 E, .slice va1 vn1 vc1, .bool bb] = z := ⟨_, rfl⟩
                have HZ : Hid (Lc 42 q [.int .u8 kd, .int .i64 A, .int .i64 C, .int .i64 E, .slice va1 vn1 vc1, .bool bb] wz ∧ Kp wr wz ∧ wr.heap.size ≤ q ∧ (-9223372036854775808 ≤ A ∧ A < 9223372036854775808) ∧ (-9223372036854775808 ≤ C ∧ C < 9223372036854775808) ∧ (-9223372036854775808 ≤ E ∧ E < 9223372036854775808)) := ⟨by rw [← hwz]; exact (HQ3.out.1.sets [.int .u8 kd, .int .i64 A, .int .i64 C, .int .i64 E, .slice va1 vn1 vc1, .bool bb] 0), kp_setsB hHeld HQ3.out.2 hwz, HQ3.out.2, rA, rC, rE⟩
                change K (Act.put _ none undef) _
                refine hK.out _ _ (by rw [hwz]; exact HZ.out.2.1) (fun hHeld => ?_)
                clear hK K
                try simp only [Act.put, List.setIfInBounds_toArray, List.set_cons_zero, List.set_cons_succ]
                rw [hwz]
                clear hwz hHeld
                refine wpAnyH_done (by kernel_rfl) ?_ _
                refine NoPanic.normal ?_
                go_wp2_with fail
                go_meet
                exact ⟨q, A, C, E, rfl, HZ⟩
              · go_simp
                obtain ⟨q, hq⟩ : ∃ q, x1.heap.size = q := ⟨_, rfl⟩
                obtain ⟨x2, hx⟩ : ∃ z, x1.alloc (.cells #[.int .u8 0, .int .i64 0, .int .i64 0, .int .i64 0, .slice none 0 0, .bool false] 42) = z := ⟨_, rfl⟩
                have HQ2 : Hid (Lc 42 q [.int .u8 0, .int .i64 0, .int .i64 0, .int .i64 0, .slice none 0 0, .bool false] x2 ∧ wr.heap.size ≤ q) := ⟨by rw [← hx, ← hq]; exact Lc.new x1 [.int .u8 0, .int .i64 0, .int .i64 0, .int .i64 0, .slice none 0 0, .bool false] 42, by rw [← hq]; exact hHeld.size⟩
                have hx2 : Kp wr x2 := kp_trans hHeld (by rw [← hx]; exact kp_alloc _ _)
                rw [hq, hx]
                clear hq hx
                refine hK.out _ _ hx2 (fun hHeld => ?_)
                clear hK K
                try simp only [Act.put, List.setIfInBounds_toArray, List.set_cons_zero, List.set_cons_succ]
                refine wpAnyH_ready (rs := [6]) (by kernel_rfl) (by simp) ?_
                refine AllReadyH.cons rfl (fun K hK => ?_) (AllReadyH.nil)
                rw [if_pos (by rfl)]
                refine call_step 73 19 (vals := #[.agg #[.int .u8 kd, .int .i64 a0, .int .i64 b0, .int .i64 c0, .slice va1 vn1 vc1, .bool bb], .int .i64 L]) rfl rfl (by simp [Act.eval]) Tryz.func19 (by kernel_rfl) (by kernel_rfl) ?_
                refine Calls.mono (HIn.out _) ?_
                rintro e x3 ⟨A, C, E, rfl, rA, rC, rE, kk⟩
                have hx3 : Kp wr x3 := kp_trans hHeld kk
                have HQ3 : Hid (Lc 42 q [.int .u8 0, .int .i64 0, .int .i64 0, .int .i64 0, .slice none 0 0, .bool false] x3 ∧ wr.heap.size ≤ q) := ⟨HQ2.out.1.kp kk, HQ2.out.2⟩
                refine ⟨_, rfl, ?_⟩
                refine hK.out _ _ hx3 (fun hHeld => ?_)
                clear hK K
                try simp only [Act.put, List.setIfInBounds_toArray, List.set_cons_zero, List.set_cons_succ]
                refine wpAnyH_ready (rs := [8]) (by kernel_rfl) (by simp) ?_
                refine AllReadyH.cons rfl (fun K hK => ?_) (AllReadyH.nil)
                rw [if_pos (by rfl)]
                refine wp_store_mid 42 (.tmp 10) (.tmp 73) rfl q 0 #[.int .u8 kd, .int .i64 A, .int .i64 C, .int .i64 E, .slice va1 vn1 vc1, .bool bb] rfl rfl (HQ3.out.1.there (Nat.le_refl 6)) sizeOp (all_oneCell_toArray (by intro v hv; simp only [List.mem_cons, List.not_mem_nil, or_false] at hv; rcases hv with rfl | rfl | rfl | rfl | rfl | rfl <;> rfl)) ?_
                obtain ⟨wz, hwz⟩ : ∃ z, x3.setCells q 0 [.int .u8 kd, .int .i64 A, .int .i64 C, .int .i64 E, .slice va1 vn1 vc1, .bool bb] = z := ⟨_, rfl⟩
                have HZ : Hid (Lc 42 q [.int .u8 kd, .int .i64 A, .int .i64 C, .int .i64 E, .slice va1 vn1 vc1, .bool bb] wz ∧ Kp wr wz ∧ wr.heap.size ≤ q ∧ (-9223372036854775808 ≤ A ∧ A < 9223372036854775808) ∧ (-9223372036854775808 ≤ C ∧ C < 9223372036854775808) ∧ (-9223372036854775808 ≤ E ∧ E < 9223372036854775808)) := ⟨by rw [← hwz]; exact (HQ3.out.1.sets [.int .u8 kd, .int .i64 A, .int .i64 C, .int .i64 E, .slice va1 vn1 vc1, .bool bb] 0), kp_setsB hHeld HQ3.out.2 hwz, HQ3.out.2, rA, rC, rE⟩
                change K (Act.put _ none undef) _
                refine hK.out _ _ (by rw [hwz]; exact HZ.out.2.1) (fun hHeld => ?_)
                clear hK K
                try simp only [Act.put, List.setIfInBounds_toArray, List.set_cons_zero, List.set_cons_succ]
                rw [hwz]
                clear hwz hHeld
                refine wpAnyH_done (by kernel_rfl) ?_ _
                refine NoPanic.normal ?_
                go_wp2_with fail
                go_meet
                exact ⟨q, A, C, E, rfl, HZ⟩
            · go_simp
              obtain ⟨q, hq⟩ : ∃ q, x0.heap.size = q := ⟨_, rfl⟩
              obtain ⟨x1, hx⟩ : ∃ z, x0.alloc (.cells #[.int .u8 0, .int .i64 0, .int .i64 0, .int .i64 0, .slice none 0 0, .bool false] 42) = z := ⟨_, rfl⟩
              have HQ1 : Hid (Lc 42 q [.int .u8 0, .int .i64 0, .int .i64 0, .int .i64 0, .slice none 0 0, .bool false] x1 ∧ wr.heap.size ≤ q) := ⟨by rw [← hx, ← hq]; exact Lc.new x0 [.int .u8 0, .int .i64 0, .int .i64 0, .int .i64 0, .slice none 0 0, .bool false] 42, by rw [← hq]; exact hHeld.size⟩
              have hx1 : Kp wr x1 := kp_trans hHeld (by rw [← hx]; exact kp_alloc _ _)
              rw [hq, hx]
              clear hq hx
              refine hK.out _ _ hx1 (fun hHeld => ?_)
              clear hK K
              try simp only [Act.put, List.setIfInBounds_toArray, List.set_cons_zero, List.set_cons_succ]
              refine wpAnyH_ready (rs := [5]) (by kernel_rfl) (by simp) ?_
              refine AllReadyH.cons rfl (fun K hK => ?_) (AllReadyH.nil)
              rw [if_pos (by rfl)]
              refine call_step 72 20 (vals := #[.pointer (some ⟨b, 0, none⟩)]) rfl rfl (by simp [Act.eval]) Tryz.func20 (by kernel_rfl) (by kernel_rfl) ?_
              refine Calls.mono (HLn.out _ hHeld) ?_
              rintro e x2 ⟨rfl, kk⟩
              have hx2 : Kp wr x2 := kp_trans hHeld kk
              have HQ2 : Hid (Lc 42 q [.int .u8 0, .int .i64 0, .int .i64 0, .int .i64 0, .slice none 0 0, .bool false] x2 ∧ wr.heap.size ≤ q) := ⟨HQ1.out.1.kp kk, HQ1.out.2⟩
              refine ⟨_, rfl, ?_⟩
              refine hK.out _ _ hx2 (fun hHeld => ?_)
              clear hK K
              try simp only [Act.put, List.setIfInBounds_toArray, List.set_cons_zero, List.set_cons_succ]
              refine wpAnyH_ready (rs := [6]) (by kernel_rfl) (by simp) ?_
              refine AllReadyH.cons rfl (fun K hK => ?_) (AllReadyH.nil)
              rw [if_pos (by rfl)]
              refine call_step 73 19 (vals := #[.agg #[.int .u8 kd, .int .i64 a0, .int .i64 b0, .int .i64 c0, .slice va1 vn1 vc1, .bool bb], .int .i64 L]) rfl rfl (by simp [Act.eval]) Tryz.func19 (by kernel_rfl) (by kernel_rfl) ?_
              refine Calls.mono (HIn.out _) ?_
              rintro e x3 ⟨A, C, E, rfl, rA, rC, rE, kk⟩
              have hx3 : Kp wr x3 := kp_trans hHeld kk
              have HQ3 : Hid (Lc 42 q [.int .u8 0, .int .i64 0, .int .i64 0, .int .i64 0, .slice none 0 0, .bool false] x3 ∧ wr.heap.size ≤ q) := ⟨HQ2.out.1.kp kk, HQ2.out.2⟩
              refine ⟨_, rfl, ?_⟩
              refine hK.out _ _ hx3 (fun hHeld => ?_)
              clear hK K
              try simp only [Act.put, List.setIfInBounds_toArray, List.set_cons_zero, List.set_cons_succ]
              refine wpAnyH_ready (rs := [8]) (by kernel_rfl) (by simp) ?_
              refine AllReadyH.cons rfl (fun K hK => ?_) (AllReadyH.nil)
              rw [if_pos (by rfl)]
              refine wp_store_mid 42 (.tmp 10) (.tmp 73) rfl q 0 #[.int .u8 kd, .int .i64 A, .int .i64 C, .int .i64 E, .slice va1 vn1 vc1, .bool bb] rfl rfl (HQ3.out.1.there (Nat.le_refl 6)) sizeOp (all_oneCell_toArray (by intro v hv; simp only [List.mem_cons, List.not_mem_nil, or_false] at hv; rcases hv with rfl | rfl | rfl | rfl | rfl | rfl <;> rfl)) ?_
              obtain ⟨wz, hwz⟩ : ∃ z, x3.setCells q 0 [.int .u8 kd, .int .i64 A, .int .i64 C, .int .i64 E, .slice va1 vn1 vc1, .bool bb] = z := ⟨_, rfl⟩
              have HZ : Hid (Lc 42 q [.int .u8 kd, .int .i64 A, .int .i64 C, .int .i64 E, .slice va1 vn1 vc1, .bool bb] wz ∧ Kp wr wz ∧ wr.heap.size ≤ q ∧ (-9223372036854775808 ≤ A ∧ A < 9223372036854775808) ∧ (-9223372036854775808 ≤ C ∧ C < 9223372036854775808) ∧ (-9223372036854775808 ≤ E ∧ E < 9223372036854775808)) := ⟨by rw [← hwz]; exact (HQ3.out.1.sets [.int .u8 kd, .int .i64 A, .int .i64 C, .int .i64 E, .slice va1 vn1 vc1, .bool bb] 0), kp_setsB hHeld HQ3.out.2 hwz, HQ3.out.2, rA, rC, rE⟩
              change K (Act.put _ none undef) _
              refine hK.out _ _ (by rw [hwz]; exact HZ.out.2.1) (fun hHeld => ?_)
              clear hK K
              try simp only [Act.put, List.setIfInBounds_toArray, List.set_cons_zero, List.set_cons_succ]
              rw [hwz]
              clear hwz hHeld
              refine wpAnyH_done (by kernel_rfl) ?_ _
              refine NoPanic.normal ?_
              go_wp2_with fail
              go_meet
              exact ⟨q, A, C, E, rfl, HZ⟩
          case rest =>
          obtain ⟨q, A, C, E, rfl, HZ⟩ := hcut
          have HT : Hid (Clm W.heap.size b o (50000 + 180000 * i) a s (1 + i) wc ∧ Kp W wc ∧ Lc 42 q [.int .u8 kd, .int .i64 A, .int .i64 C, .int .i64 E, .slice va1 vn1 vc1, .bool bb] wc ∧ o q = .free ∧ (-9223372036854775808 ≤ A ∧ A < 9223372036854775808) ∧ (-9223372036854775808 ≤ C ∧ C < 9223372036854775808)) := ⟨HL.out.1.kp HZ.out.2.1, kp_trans HL.out.2 HZ.out.2.1, HZ.out.1, HL.out.1.bf.new HZ.out.2.2.1, HZ.out.2.2.2.1, HZ.out.2.2.2.2.1⟩
          have HSv : Hid (Sl (fun k => k < W.heap.size) (.slice va1 vn1 vc1) ls1 wc ∧ ls1.length ≤ 8796093022208) := ⟨HSl.out.1.kp HZ.out.2.1, HSl.out.2⟩
          clear HR HLn HIn HSl HL HZ hL hL1 hL2 hgB
          obtain ⟨c, f, y, bo, hc, hf01, hf, _, hg, hli⟩ := q_get HT.out.1.bf HT.out.1.fine
          have HG : Hid _ := hg
          have HLi : Hid _ := hli
          have HF0 : Hid _ := hf
          have c0 : wc.cell? ⟨q, 0, none⟩ = some (.int .u8 kd) := HT.out.2.2.1.at (j := 0) rfl
          have c1 : wc.cell? ⟨q, 1, none⟩ = some (.int .i64 A) := HT.out.2.2.1.at (j := 1) rfl
          have c2 : wc.cell? ⟨q, 2, none⟩ = some (.int .i64 C) := HT.out.2.2.1.at (j := 2) rfl
          have c4 : wc.cell? ⟨q, 4, none⟩ = some (.slice va1 vn1 vc1) := HT.out.2.2.1.at (j := 4) rfl
          clear hg hli hf
          go_wp2_with fail
          refine Calls.mono (bmarks_any _ _) ?_
          rintro e w4 ⟨rfl, rfl⟩
          go_wp2_with fail
          refine Calls.mono (HG.out _ (by first | exact Below.refl _ _ | exact kp_drew _ | exact kp_drewN _ _)) ?_
          rintro e w5 ⟨rfl, rfl⟩
          clear HG
          go_wp2_with fail
          refine Calls.mono (HLi.out _ (by first | exact Below.refl _ _ | exact kp_drew _ | exact kp_drewN _ _)) ?_
          rintro e w6 ⟨rfl, q6, rfl⟩
          clear HLi
          have k6 : Kp w5 (w5.drewN q6) := kp_drewN _ _
          have HT7 : Hid (Clm W.heap.size b o (50000 + 180000 * i) a s (1 + i) (w5.drewN q6) ∧ Kp W (w5.drewN q6) ∧ Lc 42 q [.int .u8 kd, .int .i64 A, .int .i64 C, .int .i64 E, .slice va1 vn1 vc1, .bool bb] (w5.drewN q6) ∧ o q = .free ∧ (-9223372036854775808 ≤ A ∧ A < 9223372036854775808) ∧ (-9223372036854775808 ≤ C ∧ C < 9223372036854775808)) := ⟨HT.out.1.kp k6, kp_trans HT.out.2.1 k6, HT.out.2.2.1.kp k6, HT.out.2.2.2⟩
          have HS7 : Hid (Sl (fun k => k < W.heap.size) (.slice va1 vn1 vc1) ls1 (w5.drewN q6) ∧ ls1.length ≤ 8796093022208) := ⟨HSv.out.1.kp k6, HSv.out.2⟩
          obtain ⟨w7, hw7⟩ : ∃ z, w5.drewN q6 = z := ⟨_, rfl⟩
          rw [hw7] at HT7 HS7 ⊢
          clear hw7 k6 HT HSv c0 c1 c2 c4
          have c0 : w7.cell? ⟨q, 0, none⟩ = some (.int .u8 kd) := HT7.out.2.2.1.at (j := 0) rfl
          have c1 : w7.cell? ⟨q, 1, none⟩ = some (.int .i64 A) := HT7.out.2.2.1.at (j := 1) rfl
          have c2 : w7.cell? ⟨q, 2, none⟩ = some (.int .i64 C) := HT7.out.2.2.1.at (j := 2) rfl
          have c4 : w7.cell? ⟨q, 4, none⟩ = some (.slice va1 vn1 vc1) := HT7.out.2.2.1.at (j := 4) rfl
          have hi60 : i < 60 := by omega
          go_upto_block 2 with fail
          go_cut [15, 16, 17, 18, 19] from 61 to 166 (fun _ _ _ _ _ wx => ∃ (o : Tz.Own) (a : At) (s : BS), Hid (Clm W.heap.size b o (50000 + 180000 * (i + 1)) a s (1 + (i + 1)) wx ∧ Kp W wx))
          case first =>
            by_cases q9 : kd % 14 = 9
            · as_aux_lemma =>
              have d9 : ((kd : Int) % 14 == 9) = true := by rw [beq_iff_eq]; omega
              have HU : Hid _ := HT7.out.1.undo (by omega)
              clear q9
              go_wp2_with fail
              refine Calls.mono HU.out ?_
              rintro e w8 ⟨⟨err, rfl⟩, o', a', s', H8⟩
              have HX : Hid (Clm W.heap.size b o' (50000 + 180000 * (i + 1)) a' s' (1 + (i + 1)) w8 ∧ Kp W w8) := ⟨H8.out.1.upM (by omega) (by omega), HT7.out.2.1.trans (H8.out.2.below HT7.out.2.1.size)⟩
              clear HU H8
              go_wp2_with fail
              go_meet
              exact ⟨_, _, _, HX⟩
            by_cases q10 : kd % 14 = 10
            · as_aux_lemma =>
              have d9 : ((kd : Int) % 14 == 9) = false := by rw [beq_eq_false_iff_ne]; omega
              have d10 : ((kd : Int) % 14 == 10) = true := by rw [beq_iff_eq]; omega
              have HU : Hid _ := HT7.out.1.redo (by omega)
              clear q9 q10
              go_wp2_with fail
              refine Calls.mono HU.out ?_
              rintro e w8 ⟨⟨err, rfl⟩, o', a', s', H8⟩
              have HX : Hid (Clm W.heap.size b o' (50000 + 180000 * (i + 1)) a' s' (1 + (i + 1)) w8 ∧ Kp W w8) := ⟨H8.out.1.upM (by omega) (by omega), HT7.out.2.1.trans (H8.out.2.below HT7.out.2.1.size)⟩
              clear HU H8
              go_wp2_with fail
              go_meet
              exact ⟨_, _, _, HX⟩
            · as_aux_lemma =>
              have d9 : ((kd : Int) % 14 == 9) = false := by rw [beq_eq_false_iff_ne]; omega
              have d10 : ((kd : Int) % 14 == 10) = false := by rw [beq_eq_false_iff_ne]; omega
              have HSp : Hid _ := HT7.out.1.splice (by omega) (A := A) (C := C) HT7.out.2.2.2.2.1 HT7.out.2.2.2.2.2 HS7.out.1 HS7.out.2
              clear q9 q10
              go_wp2_with fail
              refine Calls.mono HSp.out ?_
              rintro e w8 ⟨err, o', a', s1, rfl, H8⟩
              clear HSp
              obtain ⟨c', f', y', bo', hc', hf01', hf', hfn', hg', hli'⟩ := q_get H8.out.1.bf H8.out.1.fine
              have HG' : Hid _ := hg'
              have HLi' : Hid _ := hli'
              have hkey : err = 0 → f = 0 → (c < A ∨ A + C ≤ c) → f' = 0 ∧ y' = y := fun e0 f0 out => by
                obtain ⟨m1, _, _, m4⟩ := HF0.out f0
                obtain ⟨n1, h1, h2⟩ := (H8.out.2.2 e0).2 113 c m1 out
                by_cases z : f' = 0
                · obtain ⟨g1, _, _, g4⟩ := hf' z
                  rw [h1] at g1; cases g1
                  rw [h2, m4] at g4; cases g4
                  exact ⟨z, rfl⟩
                · have := hfn' z; rw [h1] at this; cases this
              have HKey : Hid _ := hkey
              have HAC : Hid (err = 0 → 1 ≤ A ∧ A ≤ 4000 ∧ 0 ≤ C ∧ C ≤ 4000) := fun e0 => (H8.out.2.2 e0).1
              have hb8 := H8.out.2.1.op13 HT7.out.2.2.1 HT7.out.2.2.2.1
              have H9 : Hid (Opn W.heap.size b o' (50000 + 180000 * i + 90000) a' s1 (1 + i) w8 ∧ Kp W w8) := ⟨H8.out.1, HT7.out.2.1.trans (H8.out.2.1.below HT7.out.2.1.size)⟩
              clear hg' hli' hf' hfn' hkey H8 c0 c1 c2 c4 HS7 HT7 HF0
              have c1 : w8.cell? ⟨q, 1, none⟩ = some (.int .i64 A) := hb8.at (j := 1) rfl
              have c2 : w8.cell? ⟨q, 2, none⟩ = some (.int .i64 C) := hb8.at (j := 2) rfl
              clear hb8
              go_wp2_with fail
              refine Calls.mono (bmarks_any _ _) ?_
              rintro e w9 ⟨rfl, rfl⟩
              go_wp2_with fail
              refine Calls.mono (HG'.out _ (by first | exact Below.refl _ _ | exact kp_drew _ | exact kp_drewN _ _)) ?_
              rintro e w10 ⟨rfl, rfl⟩
              clear HG'
              go_wp2_with fail
              refine Calls.mono (HLi'.out _ (by first | exact Below.refl _ _ | exact kp_drew _ | exact kp_drewN _ _)) ?_
              rintro e w11 ⟨rfl, q11, rfl⟩
              clear HLi'
              have HCm : Hid _ := (H9.out.1.kp (kp_drewN _ q11)).commit (by omega)
              have HK9 : Hid (Kp W (w10.drewN q11)) := kp_trans H9.out.2 (kp_drewN _ _)
              clear H9
              by_cases e0 : err = 0
              · by_cases f0 : f = 0
                · obtain ⟨r1, r2, r3, r4⟩ := HAC.out e0
                  clear HAC
                  by_cases out : c < A ∨ A + C ≤ c
                  · obtain ⟨rfl, rfl⟩ := HKey.out e0 f0 out
                    clear HKey
                    subst e0 f0
                    by_cases lt : c < A
                    · have g3 : decide (c < A) = true := decide_eq_true lt
                      clear out lt
                      go_wp2_with fail
                      refine Calls.mono HCm.out ?_
                      rintro e w12 ⟨⟨nn, is, rfl⟩, a2, s2, H12⟩
                      have HX : Hid (Clm W.heap.size b o' (50000 + 180000 * (i + 1)) a2 s2 (1 + (i + 1)) w12 ∧ Kp W w12) := ⟨H12.out.1.upM (by omega) (by omega), HK9.out.trans (H12.out.2.below HK9.out.size)⟩
                      clear HCm H12 HK9
                      go_wp2_with fail
                      go_meet
                      exact ⟨_, _, _, HX⟩
                    · have g3 : decide (c < A) = false := decide_eq_false lt
                      have g4 : decide (c ≥ A + C) = true := decide_eq_true (by omega)
                      have g5 : decide (A + C ≤ c) = true := decide_eq_true (by omega)
                      clear out lt
                      go_wp2_with fail
                      refine Calls.mono HCm.out ?_
                      rintro e w12 ⟨⟨nn, is, rfl⟩, a2, s2, H12⟩
                      have HX : Hid (Clm W.heap.size b o' (50000 + 180000 * (i + 1)) a2 s2 (1 + (i + 1)) w12 ∧ Kp W w12) := ⟨H12.out.1.upM (by omega) (by omega), HK9.out.trans (H12.out.2.below HK9.out.size)⟩
                      clear HCm H12 HK9
                      go_wp2_with fail
                      go_meet
                      exact ⟨_, _, _, HX⟩
                  · have g3 : decide (c < A) = false := decide_eq_false (by omega)
                    have g4 : decide (c ≥ A + C) = false := decide_eq_false (by omega)
                    have g5 : decide (A + C ≤ c) = false := decide_eq_false (by omega)
                    clear HKey out
                    subst e0 f0
                    go_wp2_with fail
                    refine Calls.mono HCm.out ?_
                    rintro e w12 ⟨⟨nn, is, rfl⟩, a2, s2, H12⟩
                    have HX : Hid (Clm W.heap.size b o' (50000 + 180000 * (i + 1)) a2 s2 (1 + (i + 1)) w12 ∧ Kp W w12) := ⟨H12.out.1.upM (by omega) (by omega), HK9.out.trans (H12.out.2.below HK9.out.size)⟩
                    clear HCm H12 HK9
                    go_wp2_with fail
                    go_meet
                    exact ⟨_, _, _, HX⟩
                · obtain rfl : f = 100 := by omega
                  subst e0
                  clear HKey HAC f0
                  go_wp2_with fail
                  refine Calls.mono HCm.out ?_
                  rintro e w12 ⟨⟨nn, is, rfl⟩, a2, s2, H12⟩
                  have HX : Hid (Clm W.heap.size b o' (50000 + 180000 * (i + 1)) a2 s2 (1 + (i + 1)) w12 ∧ Kp W w12) := ⟨H12.out.1.upM (by omega) (by omega), HK9.out.trans (H12.out.2.below HK9.out.size)⟩
                  clear HCm H12 HK9
                  go_wp2_with fail
                  go_meet
                  exact ⟨_, _, _, HX⟩
              · have g1 : (err == 0) = false := beq_eq_false_iff_ne.2 e0
                clear HKey HAC e0
                go_wp2_with fail
                refine Calls.mono HCm.out ?_
                rintro e w12 ⟨⟨nn, is, rfl⟩, a2, s2, H12⟩
                have HX : Hid (Clm W.heap.size b o' (50000 + 180000 * (i + 1)) a2 s2 (1 + (i + 1)) w12 ∧ Kp W w12) := ⟨H12.out.1.upM (by omega) (by omega), HK9.out.trans (H12.out.2.below HK9.out.size)⟩
                clear HCm H12 HK9
                go_wp2_with fail
                go_meet
                exact ⟨_, _, _, HX⟩
          case rest =>
          obtain ⟨o, a, s, HX⟩ := hcut
          clear HT7 HS7 c0 c1 c2 c4 HF0 hc hf01
          obtain ⟨c, f, y, bo, hc, hf01, hf, _, hg, _⟩ := q_get HX.out.1.bf HX.out.1.fine
          have HG : Hid _ := hg
          obtain ⟨L, hL⟩ : ∃ L, s.ls.length = L := ⟨_, rfl⟩
          have hL2 := HX.out.1.fine.ls.2.1
          have HLn : Hid (∀ z, Kp wc z → Calls Tryz.prog 20 #[.pointer (some ⟨b, 0, none⟩)] z fun e w' => e = .returned (.int .i64 L) ∧ ∃ m, w' = z.drewN m) := fun z kz => by
            have := blen_any (HX.out.1.bf.kp_ kz)
            rw [hL] at this
            exact this
          rw [hL] at hf hL2
          clear hg hL
          go_wp2_with fail
          refine Calls.mono (bmarks_any _ _) ?_
          rintro e w4 ⟨rfl, rfl⟩
          go_wp2_with fail
          refine Calls.mono (HG.out _ (by first | exact Below.refl _ _ | exact kp_drew _ | exact kp_drewN _ _)) ?_
          rintro e w6 ⟨rfl, rfl⟩
          clear HG
          rcases hf01 with rfl | rfl
          · obtain ⟨_, h1, h2, _⟩ := hf rfl
            have g3 : decide (c < 1) = false := decide_eq_false (by omega)
            have g4 : decide (c > (L : Int)) = false := decide_eq_false (by omega)
            have g5 : decide ((L : Int) < c) = false := decide_eq_false (by omega)
            clear hf
            go_wp2_with fail
            refine Calls.mono (HLn.out _ (by first | exact Below.refl _ _ | exact kp_drew _ | exact kp_drewN _ _)) ?_
            rintro e w9 ⟨rfl, q9, rfl⟩
            have HY : Hid (Clm W.heap.size b o (50000 + 180000 * (i + 1)) a s (1 + (i + 1)) (w6.drewN q9) ∧ Kp W (w6.drewN q9)) := ⟨HX.out.1.kp (kp_drewN _ _), kp_trans HX.out.2 (kp_drewN _ _)⟩
            clear HLn HX
            go_wp2_with fail
            go_roundw
            case rel => exact ⟨i + 1, o, a, s, by omega, by go_num, HY⟩
            case measure => simp only [intOf]; omega
          · clear hf HLn
            go_wp2_with fail
            go_roundw
            case rel => exact ⟨i + 1, o, a, s, by omega, by go_num, HX⟩
            case measure => simp only [intOf]; omega
        · obtain rfl : i = N := by omega
          have g1 : decide ((i : Int) < (i : Int)) = false := by simp
          go_wp2_with fail
          go_ret
          exact ⟨rfl, HL.out.2⟩
    · as_aux_lemma =>
      obtain ⟨Er, hEq, hE0, hE12⟩ : ∃ E, beyondE (ls.length : Int) ls = E ∧ E ≠ 0 ∧ (E = 3 ∨ E = 90) := ⟨_, rfl, hE, by
        unfold beyondE at hE ⊢
        split
        · exact .inl rfl
        · split
          · exact .inr rfl
          · rename_i q1 q2; rw [if_neg q1, if_neg q2] at hE; exact absurd rfl hE⟩
      have HN : Hid _ := bnew_no hsl2 (n := 50) (by decide) hEq hE0 (by omega)
      clear hE hsl2 hEq hE0
      go_wp2_with fail
      refine Calls.mono HN.out ?_
      rintro e w3 ⟨rfl, k3⟩
      have HX : Hid (Below W.heap.size W w3) := kp_trans H2.out k3
      clear HN k3 H2
      rcases hE12 with rfl | rfl
      · go_wp2_with fail
        go_ret
        exact ⟨rfl, HX.out⟩
      · go_wp2_with fail
        go_ret
        exact ⟨rfl, HX.out⟩
end Go.Proofs.YtaefeakmlgjonaaGreat
