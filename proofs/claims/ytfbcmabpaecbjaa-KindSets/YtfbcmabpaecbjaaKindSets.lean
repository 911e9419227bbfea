/- For every byte and every string the statement KindSets returns true: Of any class and Named of any name are just the document's; no condition. -/
import Derived.Test.YtfbcmabpaecbjaaRNamed
import Derived.ShutString
import Derived.ChangeOld
namespace Go.Proofs.Ytfbcmabpaecbjaa.kindSets
open Go.ChangeShapes Go.WideShapes Go.ChangeAt Go.RowKit
open Go.ChangeMaps (open_string shut_string)
set_option linter.unusedVariables false

theorem own : ownKnob Try.prog.godebug = none := by kernel_rfl
theorem laidOut : laidOutB Try.prog = true := by kernel_rfl

theorem walk_long (k : Int) (n : ByteArray) (h : (100 : Int) < n.size) (w : World) :
    Calls Try.prog 7 #[.int .u8 k, .string n] w fun e w' => e = .returned (.bool true) ∧ Below w.heap.size w w' := by
  go_enter Try.func7, Try.ntmps7
  go_wp2_with fail
  refine (known_any _).mono ?_
  rintro e x1 ⟨rfl, hb1⟩
  go_wp2
  go_ret
  exact ⟨rfl, hb1⟩
set_option maxHeartbeats 1000000 in
theorem walk_short (k : Int) (n : ByteArray) (h : (n.size : Int) ≤ 100) (w : World) :
    Calls Try.prog 7 #[.int .u8 k, .string n] w fun e w' => e = .returned (.bool true) ∧ Below w.heap.size w w' := by
  have hq := eq_set
  have hr := set_refl
  have K1 : Hid (∀ w, Calls Try.prog 10 #[.int .u8 k] w fun e w' => e = .returned (.tuple #[.agg #[.int .u64 (foldS (isB k) 256).a, .int .u64 (foldS (isB k) 256).b, .int .u64 (foldS (isB k) 256).c, .int .u64 (foldS (isB k) 256).d], .bool (knB (smI k))]) ∧ Below w.heap.size w w') := fun w => kOf_any k w
  have K2 : Hid (∀ w, Calls Try.prog 20 #[.int .u8 k] w fun e w' => e = .returned (.tuple #[.agg #[.int .u64 (foldS (isB k) 256).a, .int .u64 (foldS (isB k) 256).b, .int .u64 (foldS (isB k) 256).c, .int .u64 (foldS (isB k) 256).d], .bool (knB (smI k))]) ∧ Below w.heap.size w w') := fun w => rOf_any k w
  have K3 : Hid (∀ w, Calls Try.prog 9 #[.string n] w fun e w' => e = .returned (.tuple #[.agg #[.int .u64 (foldS (nmB n.toList) 256).a, .int .u64 (foldS (nmB n.toList) 256).b, .int .u64 (foldS (nmB n.toList) 256).c, .int .u64 (foldS (nmB n.toList) 256).d], .bool (nmK n.toList)]) ∧ Below w.heap.size w w') := fun w => kNamed_any n w
  have K4 : Hid (∀ w, Calls Try.prog 21 #[.string n] w fun e w' => e = .returned (.tuple #[.agg #[.int .u64 (foldS (nmB n.toList) 256).a, .int .u64 (foldS (nmB n.toList) 256).b, .int .u64 (foldS (nmB n.toList) 256).c, .int .u64 (foldS (nmB n.toList) 256).d], .bool (nmK n.toList)]) ∧ Below w.heap.size w w') := fun w => rNamed_any n w
  generalize foldS (isB k) 256 = s at *
  generalize foldS (nmB n.toList) 256 = t at *
  generalize knB (smI k) = p at *
  generalize nmK n.toList = q at *
  go_enter Try.func7, Try.ntmps7
  go_wp2_with fail
  refine (known_any _).mono ?_
  rintro e x0 ⟨rfl, hb0⟩
  go_wp2_with fail
  refine (K1.out _).mono ?_
  rintro e x1 ⟨rfl, hb⟩
  have b0 := bw_trans hb0 hb
  clear hb hb0
  go_wp2_with fail
  refine (K2.out _).mono ?_
  rintro e x2 ⟨rfl, hb⟩
  have z2 : x1.heap.size + 1 ≤ x2.heap.size := by have := hb.size; rw [size_alloc] at this; omega
  have B1 : Box x2 x1.heap.size s := (box_new x1 _ 24).below hb (by simp only [size_alloc]; omega)
  have b0 := bw_trans (bw_alloc b0 _) hb
  clear hb
  go_wp2_with fail
  refine (K3.out _).mono ?_
  rintro e x3 ⟨rfl, hb⟩
  have z3 : x2.heap.size + 1 ≤ x3.heap.size := by have := hb.size; rw [size_alloc] at this; omega
  have B1 : Box x3 x1.heap.size s := (B1.alloc (by omega) _).below hb (by simp only [size_alloc]; omega)
  have B2 : Box x3 x2.heap.size s := (box_new x2 _ 24).below hb (by simp only [size_alloc]; omega)
  have b0 := bw_trans (bw_alloc b0 _) hb
  clear hb
  go_wp2_with fail
  refine (K4.out _).mono ?_
  rintro e x4 ⟨rfl, hb⟩
  have z4 : x3.heap.size + 1 ≤ x4.heap.size := by have := hb.size; rw [size_alloc] at this; omega
  have B1 : Box x4 x1.heap.size s := (B1.alloc (by omega) _).below hb (by simp only [size_alloc]; omega)
  have B2 : Box x4 x2.heap.size s := (B2.alloc (by omega) _).below hb (by simp only [size_alloc]; omega)
  have B3 : Box x4 x3.heap.size t := (box_new x3 _ 24).below hb (by simp only [size_alloc]; omega)
  have b0 := bw_trans (bw_alloc b0 _) hb
  clear hb
  obtain ⟨c11, c12, c13, c14⟩ := B1
  obtain ⟨c21, c22, c23, c24⟩ := B2
  obtain ⟨c31, c32, c33, c34⟩ := B3
  have l1 : x1.heap.size < x4.heap.size := by omega
  have l2 : x2.heap.size < x4.heap.size := by omega
  have l3 : x3.heap.size < x4.heap.size := by omega
  go_wp2
  go_ret
  exact ⟨rfl, bw_alloc b0 _⟩
theorem walk (a0 : Int) (w0 : (Lit.int .u8 a0).wf = true) (a1 : ByteArray) (w1 : a1.size ≤ maxLen) (w : World) :
    Calls Try.prog 7 #[.int .u8 a0, .string a1] w fun e w' => e = .returned (.bool true) ∧ Below w.heap.size w w' := by
  by_cases h : (100 : Int) < a1.size
  · exact walk_long a0 a1 h w
  · exact walk_short a0 a1 (by omega) w

set_option maxRecDepth 100000 in
theorem lifted (os : Os) (started : os.Started) (H : Type) (enc : TypeId × Value → H) :
    ReturnsInHanded {} Try.checked os 7 .any (Rows.kindSetsSpec.pre6 enc Try.prog Try.f7 Rows.kindSetsRow.domain false) (Rows.kindSetsSpec.post enc Try.prog Try.f7 false true false false) := by
  refine returnsInHanded_of_change (C := Try.checked) own started (by kernel_rfl) Try.func7
    (ChangeSpec.witness6 (enc := enc) (C := Try.checked) false ⟨#[], #[.int .u8 0, .string ⟨#[]⟩], []⟩ 8 (by kernel_rfl) (by kernel_rfl) (by kernel_rfl) (by kernel_rfl)) ?_
  intro W base args ds gs before hval0 hW hcnd _
  have hval : ∀ (j : Nat) t v, Try.f7.params[j]? = some t → args[j]? = some v → Value.okWide Try.prog W .any base t v := hval0
  have hW' := hW
  obtain ⟨p, q, hA0, hV, rfl, hfz, hnd⟩ := hW
  have hA : DataW.TrodAll enc Try.prog W 0 (fun _ => true) true Try.f7.params.toList args.toList ds p := hA0
  rw [Try.params7] at hA hval
  obtain ⟨v0, vs0, d0, ds0, p0, q0, hargs, rfl, rfl, h0, r0⟩ := trodAll_cons hA
  obtain ⟨v1, vs1, d1, ds1, p1, q1, rfl, rfl, rfl, h1, r1⟩ := trodAll_cons r0
  obtain ⟨rfl, rfl, rfl⟩ := trodAll_nil r1
  obtain rfl : args = #[v0, v1] := by cases args; simp_all
  obtain ⟨rfl, rfl⟩ := trodVars_none hV
  obtain ⟨a0, rfl, rfl, rfl, w0⟩ := open_int Try.underlying5 (hval 0 5 v0 rfl rfl) h0
  obtain ⟨a1, rfl, rfl, rfl, w1⟩ := open_string Try.underlying9 (hval 1 9 v1 rfl rfl) h1
  clear hA0 hval0
  refine (walk a0 w0 a1 w1 W).mono fun e W' ⟨he, bel⟩ => ?_
  subst he
  exact ⟨_, rfl, _, _, _, [], _, [], hW', trodAll_mk1 (shut_bool Try.underlying4 _), (trodAll_cons_mk (shut_int Try.underlying5 w0) (trodAll_cons_mk (shut_string Try.underlying9 w1) trodAll_mk0)), rfl, bel.frame _, fun h => by cases h⟩

theorem over : Rows.kindSetsRow.holds Try.pinned (OpenSpec.ofChange Rows.kindSetsSpec) :=
  OpenClaim.holds_of_wide 7 Try.f7 rfl rfl rfl rfl rfl rfl rfl ⟨rfl, rfl, rfl, rfl, rfl⟩ rfl rfl rfl rfl rfl (by kernel_rfl) Try.func7 (by kernel_rfl)
    (of_decide_eq_true (by kernel_rfl)) (by unfold Func.isWrapper; first | (rw [if_pos (by decide +kernel)]; kernel_rfl) | (rw [if_neg (by decide +kernel)]; exact ⟨rfl, rfl⟩))
    (fun os started H enc _ => lifted os started H enc)

end Go.Proofs.Ytfbcmabpaecbjaa.kindSets
namespace Go.Proofs.Ytfbcmabpaecbjaa
theorem kindSets_holds : Rows.KindSetsSaid := kindSets.over
#print axioms kindSets_holds
end Go.Proofs.Ytfbcmabpaecbjaa
