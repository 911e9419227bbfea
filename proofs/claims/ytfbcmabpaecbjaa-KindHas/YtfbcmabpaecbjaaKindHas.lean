/- For every two sets and every two bytes the statement KindHas returns true: Has, With, Not and Both of package kind are just the document's; no condition. -/
import Derived.Test.YtfbcmabpaecbjaaSets
import Derived.ShutString
import Derived.ChangeOld
namespace Go.Proofs.Ytfbcmabpaecbjaa.kindHas
open Go.ChangeShapes Go.WideShapes Go.ChangeAt Go.RowKit
open Go.ChangeMaps (open_string shut_string)
set_option linter.unusedVariables false

theorem own : ownKnob Try.prog.godebug = none := by kernel_rfl
theorem laidOut : laidOutB Try.prog = true := by kernel_rfl

theorem walkN (s : S4) (hs : s.ok) (t : S4) (ht : t.ok) (x : Nat) (hx : x < 256) (y : Nat) (hy : y < 256) (w : World) :
    Calls Try.prog 8 #[.agg #[.int .u64 s.a, .int .u64 s.b, .int .u64 s.c, .int .u64 s.d], .agg #[.int .u64 t.a, .int .u64 t.b, .int .u64 t.c, .int .u64 t.d], .int .u8 x, .int .u8 y] w fun e w' => e = .returned (.bool true) ∧ Below w.heap.size w w' := by
  have hq := eq_set
  have hr := set_refl
  go_enter Try.func8, Try.ntmps8
  go_wp2_with fail
  refine (kWith_any s hs x hx _).mono ?_
  rintro e w1 ⟨rfl, hb1⟩
  have b1 : Box w1 w.heap.size s := ((box_new w s 24).alloc (by simp only [size_alloc]; omega) _).below hb1 (by simp only [size_alloc]; omega)
  have b2 : Box w1 (w.heap.size + 1) t := by
    have := (box_new (w.alloc (.cells #[.int .u64 s.a, .int .u64 s.b, .int .u64 s.c, .int .u64 s.d] 24)) t 24).below hb1 (by simp only [size_alloc]; omega)
    rwa [size_alloc] at this
  have hz1 : w.heap.size + 2 ≤ w1.heap.size := by have := hb1.size; rw [size_alloc, size_alloc] at this; omega
  have hb0 : Below w.heap.size w w1 := bw_trans (bw_alloc (bw_alloc (Below.refl _ _) _) _) hb1
  clear hb1
  go_wp2
  obtain ⟨W0, hW0⟩ : ∃ W0, W0 = w1.alloc (.cells #[.int .u64 (withS s x).a, .int .u64 (withS s x).b, .int .u64 (withS s x).c, .int .u64 (withS s x).d] 24) := ⟨_, rfl⟩
  have c1 : Box W0 w.heap.size s := by rw [hW0]; exact b1.alloc (by omega) _
  have c2 : Box W0 (w.heap.size + 1) t := by rw [hW0]; exact b2.alloc (by omega) _
  have c3 : Box W0 w1.heap.size (withS s x) := by rw [hW0]; exact box_new _ _ _
  have hB : w1.heap.size + 1 ≤ W0.heap.size := by rw [hW0, size_alloc]; omega
  have hbW : Below w.heap.size w W0 := by rw [hW0]; exact bw_alloc hb0 _
  rw [← hW0]
  have d1 := fun w' (k : Below (w1.heap.size + 1) W0 w') => (c1.below k (by omega)).1
  have d2 := fun w' (k : Below (w1.heap.size + 1) W0 w') => (c1.below k (by omega)).2.1
  have d3 := fun w' (k : Below (w1.heap.size + 1) W0 w') => (c1.below k (by omega)).2.2.1
  have d4 := fun w' (k : Below (w1.heap.size + 1) W0 w') => (c1.below k (by omega)).2.2.2
  have e1 := fun w' (k : Below (w1.heap.size + 1) W0 w') => (c2.below k (by omega)).1
  have e2 := fun w' (k : Below (w1.heap.size + 1) W0 w') => (c2.below k (by omega)).2.1
  have e3 := fun w' (k : Below (w1.heap.size + 1) W0 w') => (c2.below k (by omega)).2.2.1
  have e4 := fun w' (k : Below (w1.heap.size + 1) W0 w') => (c2.below k (by omega)).2.2.2
  have f1 := fun w' (k : Below (w1.heap.size + 1) W0 w') => (c3.below k (by omega)).1
  have f2 := fun w' (k : Below (w1.heap.size + 1) W0 w') => (c3.below k (by omega)).2.1
  have f3 := fun w' (k : Below (w1.heap.size + 1) W0 w') => (c3.below k (by omega)).2.2.1
  have f4 := fun w' (k : Below (w1.heap.size + 1) W0 w') => (c3.below k (by omega)).2.2.2
  clear c1 c2 c3 b1 b2 hW0
  have hk0 : Below (w1.heap.size + 1) W0 W0 := Below.refl _ _
  go_region_held3 (fun w' => Below (w1.heap.size + 1) W0 w') (first | assumption | exact Below.drew (by assumption))
    (first
      | (go_at_call 13; refine (kHas_any s hs y hy _).mono ?_; rintro e w2 ⟨rfl, hb⟩; have hk := keepB hB (by assumption) hb)
      | (go_at_call 23; refine (rHas_any s hs y hy _).mono ?_; rintro e w2 ⟨rfl, hb⟩; have hk := keepB hB (by assumption) hb)
      | (go_at_call 24; refine (rWith_any s hs x hx _).mono ?_; rintro e w2 ⟨rfl, hb⟩; have hk := keepB hB (by assumption) hb))
  go_wp2
  go_region_held3 (fun w' => Below (w1.heap.size + 1) W0 w') (first | assumption | exact Below.drew (by assumption))
    (first
      | (go_at_call 12; refine (known_any _).mono ?_; rintro e w2 ⟨rfl, hb⟩; have hk := keepB hB (by assumption) hb)
      | (go_at_call 25; refine (kNot_any s hs _).mono ?_; rintro e w2 ⟨rfl, hb⟩; have hk := keepB hB (by assumption) hb)
      | (go_at_call 26; refine (rNot_any s hs _).mono ?_; rintro e w2 ⟨rfl, hb⟩; have hk := keepB hB (by assumption) hb)
      | (go_at_call 11; refine (kBoth_any s t hs ht _).mono ?_; rintro e w2 ⟨rfl, hb⟩; have hk := keepB hB (by assumption) hb)
      | (go_at_call 27; refine (rBoth_any s t hs ht _).mono ?_; rintro e w2 ⟨rfl, hb⟩; have hk := keepB hB (by assumption) hb))
  go_wp2
  go_ret
  exact ⟨rfl, hbW.trans (Below.mono (by assumption) (by omega))⟩
theorem walk (s : S4) (hs : s.ok) (t : S4) (ht : t.ok) (a2 : Int) (w2 : (Lit.int .u8 a2).wf = true) (a3 : Int) (w3 : (Lit.int .u8 a3).wf = true) (w : World) :
    Calls Try.prog 8 #[.agg #[.int .u64 s.a, .int .u64 s.b, .int .u64 s.c, .int .u64 s.d], .agg #[.int .u64 t.a, .int .u64 t.b, .int .u64 t.c, .int .u64 t.d], .int .u8 a2, .int .u8 a3] w fun e w' => e = .returned (.bool true) ∧ Below w.heap.size w w' := by
  obtain ⟨x, rfl, hx⟩ := u8_range w2
  obtain ⟨y, rfl, hy⟩ := u8_range w3
  exact walkN s hs t ht x hx y hy w

set_option maxRecDepth 100000 in
theorem lifted (os : Os) (started : os.Started) (H : Type) (enc : TypeId × Value → H) :
    ReturnsInHanded {} Try.checked os 8 .any (Rows.kindHasSpec.pre6 enc Try.prog Try.f8 Rows.kindHasRow.domain false) (Rows.kindHasSpec.post enc Try.prog Try.f8 false true false false) := by
  refine returnsInHanded_of_change (C := Try.checked) own started (by kernel_rfl) Try.func8
    (ChangeSpec.witness6 (enc := enc) (C := Try.checked) false ⟨#[], #[.agg #[.int .u64 0, .int .u64 0, .int .u64 0, .int .u64 0], .agg #[.int .u64 0, .int .u64 0, .int .u64 0, .int .u64 0], .int .u8 0, .int .u8 0], []⟩ 8 (by kernel_rfl) (by kernel_rfl) (by kernel_rfl) (by kernel_rfl)) ?_
  intro W base args ds gs before hval0 hW hcnd _
  have hval : ∀ (j : Nat) t v, Try.f8.params[j]? = some t → args[j]? = some v → Value.okWide Try.prog W .any base t v := hval0
  have hW' := hW
  obtain ⟨p, q, hA0, hV, rfl, hfz, hnd⟩ := hW
  have hA : DataW.TrodAll enc Try.prog W 0 (fun _ => true) true Try.f8.params.toList args.toList ds p := hA0
  rw [Try.params8] at hA hval
  obtain ⟨v0, vs0, d0, ds0, p0, q0, hargs, rfl, rfl, h0, r0⟩ := trodAll_cons hA
  obtain ⟨v1, vs1, d1, ds1, p1, q1, rfl, rfl, rfl, h1, r1⟩ := trodAll_cons r0
  obtain ⟨v2, vs2, d2, ds2, p2, q2, rfl, rfl, rfl, h2, r2⟩ := trodAll_cons r1
  obtain ⟨v3, vs3, d3, ds3, p3, q3, rfl, rfl, rfl, h3, r3⟩ := trodAll_cons r2
  obtain ⟨rfl, rfl, rfl⟩ := trodAll_nil r3
  obtain rfl : args = #[v0, v1, v2, v3] := by cases args; simp_all
  obtain ⟨rfl, rfl⟩ := trodVars_none hV
  have k0 := h0
  have lt0 : ∀ x ∈ p0, x.block < W.heap.size := by obtain ⟨m, hm⟩ := k0; exact DataW.trod_lt m _ _ _ hm
  obtain ⟨a0, w0, rfl⟩ := set_form (hval 0 24 v0 rfl rfl) h0
  have k1 := h1
  have lt1 : ∀ x ∈ p1, x.block < W.heap.size := by obtain ⟨m, hm⟩ := k1; exact DataW.trod_lt m _ _ _ hm
  obtain ⟨a1, w1, rfl⟩ := set_form (hval 1 24 v1 rfl rfl) h1
  obtain ⟨a2, rfl, rfl, rfl, w2⟩ := open_int Try.underlying5 (hval 2 5 v2 rfl rfl) h2
  obtain ⟨a3, rfl, rfl, rfl, w3⟩ := open_int Try.underlying5 (hval 3 5 v3 rfl rfl) h3
  clear hA0 hval0
  refine (walk a0 w0 a1 w1 a2 w2 a3 w3 W).mono fun e W' ⟨he, bel⟩ => ?_
  subst he
  exact ⟨_, rfl, _, _, _, [], _, [], hW', trodAll_mk1 (shut_bool Try.underlying4 _), (trodAll_cons_mk (Below.trod laidOut (by kernel_rfl) (of_decide_eq_true (by kernel_rfl)) k0 bel lt0) (trodAll_cons_mk (Below.trod laidOut (by kernel_rfl) (of_decide_eq_true (by kernel_rfl)) k1 bel lt1) (trodAll_cons_mk (shut_int Try.underlying5 w2) (trodAll_cons_mk (shut_int Try.underlying5 w3) trodAll_mk0)))), rfl, bel.frame _, fun h => by cases h⟩

theorem over : Rows.kindHasRow.holds Try.pinned (OpenSpec.ofChange Rows.kindHasSpec) :=
  OpenClaim.holds_of_wide 8 Try.f8 rfl rfl rfl rfl rfl rfl rfl ⟨rfl, rfl, rfl, rfl, rfl⟩ rfl rfl rfl rfl rfl (by kernel_rfl) Try.func8 (by kernel_rfl)
    (of_decide_eq_true (by kernel_rfl)) (by unfold Func.isWrapper; first | (rw [if_pos (by decide +kernel)]; kernel_rfl) | (rw [if_neg (by decide +kernel)]; exact ⟨rfl, rfl⟩))
    (fun os started H enc _ => lifted os started H enc)

end Go.Proofs.Ytfbcmabpaecbjaa.kindHas
namespace Go.Proofs.Ytfbcmabpaecbjaa
theorem kindHas_holds : Rows.KindHasSaid := kindHas.over
#print axioms kindHas_holds
end Go.Proofs.Ytfbcmabpaecbjaa
