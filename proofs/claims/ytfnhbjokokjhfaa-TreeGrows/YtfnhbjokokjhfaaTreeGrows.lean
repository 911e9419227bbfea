/- For every list of lines the statement TreeGrows returns true; no condition. -/
import Derived.Test.YtfnhbjokokjhfaaLaw0
import Derived.ShutString
import Derived.ChangeOld
namespace Go.Proofs.Ytfnhbjokokjhfaa.treeGrows
open Go.ChangeShapes Go.WideShapes Go.ChangeAt Go.RowKit
open Go.ChangeMaps (open_string shut_string)
set_option linter.unusedVariables false

theorem own : ownKnob Try.prog.godebug = none := by kernel_rfl
theorem laidOut : laidOutB Try.prog = true := by kernel_rfl

theorem walk_long (W : World) (a : Option Addr) (L cap : Nat) (h : 300 < L) :
    Calls Try.prog 3 #[.slice a L cap] W fun e w' => e = .returned (.bool true) ∧ Below W.heap.size W w' := by
  have hd : decide ((300 : Int) < (L : Int)) = true := by simp; omega
  go_enter Try.func3, Try.ntmps3
  go_wp2_with fail
  refine (known_any _).mono ?_
  rintro e x1 ⟨rfl, hb1⟩
  go_wp2_with fail
  go_ret
  exact ⟨rfl, hb1⟩
theorem drop_pred {ms : List ByteArray} {i : Nat} {x : ByteArray} (hi : i < ms.length) (hx : ms[ms.length - 1 - i]? = some x) : x :: ms.drop (ms.length - i) = ms.drop (ms.length - (i + 1)) := by
  obtain ⟨h1, e⟩ := List.getElem?_eq_some_iff.1 hx
  have e2 : ms.length - (i + 1) = ms.length - 1 - i := by omega
  rw [e2, List.drop_eq_getElem_cons h1, e]
  congr 2; omega
set_option maxHeartbeats 8000000 in
set_option maxRecDepth 100000 in
theorem walk_short (W : World) (ms : List ByteArray) (v : Value) (hv : Lies nobody W v ms) (h : ms.length ≤ 300) (hb : sizes ms < 2 ^ 60) :
    Calls Try.prog 3 #[v] W fun e w' => e = .returned (.bool true) ∧ Below W.heap.size W w' := by
  obtain ⟨a, cap, rfl, c1, c2⟩ := hv.form
  have HV : Hid (∀ x, Below W.heap.size W x → Lies nobody x (.slice a ms.length cap) ms) := fun x hx => hv.below hx (Nat.le_refl _)
  have HM : Hid (sizes ms < 2 ^ 60) := hb
  obtain ⟨L, hL⟩ : ∃ L, ms.length = L := ⟨_, rfl⟩
  have HL : Hid (ms.length = L) := hL
  rw [hL] at c1 h HV ⊢
  have hd : decide ((300 : Int) < (L : Int)) = false := by simp; omega
  unfold maxLen at c2
  clear hv hb hL
  go_enter Try.func3, Try.ntmps3
  go_wp2_with fail
  refine (known_any _).mono ?_
  rintro e x1 ⟨rfl, hb1⟩
  have HB1 : Hid (Below W.heap.size W x1) := hb1
  clear hb1
  go_wp2_with fail
  refine (new_any (HV.out _ HB1.out) (by rw [HL.out]; omega) (by have := HM.out; omega)).mono ?_
  rintro e x2 ⟨rfl, ha⟩
  generalize x1.heap.size = ta at *
  have HA : Hid (After nobody x1 ta ms 10000 x2) := by
    obtain ⟨o, q1, q2⟩ := ha
    exact ⟨o, q1.mono (by rw [HL.out]; omega), q2⟩
  clear ha
  go_wp2_with fail
  refine (new_any (w := x2) lies_nil (by simp) (by decide)).mono ?_
  rintro e x3 ⟨rfl, ha⟩
  generalize x2.heap.size = tb at *
  have HA2 : Hid (After nobody x2 tb [] 10000 x3) := by
    obtain ⟨o, q1, q2⟩ := ha
    exact ⟨o, q1.mono (by simp), q2⟩
  clear ha
  go_wp2_with fail
  refine (new_any (w := x3) lies_nil (by simp) (by decide)).mono ?_
  rintro e x4 ⟨rfl, ha⟩
  generalize x3.heap.size = tc at *
  have HT : Hid (Three W.heap.size W x4 ta tb tc ms [] [] 10000) := by
    refine three_new HB1.out (Nat.le_refl _) HA.out HA2.out ?_
    obtain ⟨o, q1, q2⟩ := ha
    exact ⟨o, q1.mono (by simp), q2⟩
  clear ha HA HA2 HB1
  go_wp2_with fail
  go_loopw [6] (fun vi wr => ∃ i : Nat, i ≤ L ∧ vi = .int .i64 i ∧ Three W.heap.size W wr ta tb tc ms (ms.take i) (ms.drop (L - i)) (10000 + 44 * i)) (fun vi _ => L - (intOf vi).toNat)
  case atStart => exact ⟨0, Nat.zero_le _, rfl, by have := HT.out; simpa [← HL.out] using this⟩
  case round =>
    obtain ⟨i, hi, rfl, hT⟩ := hrel
    by_cases hlt : i < L
    · have hx : ms[i]? = some (ms[i]'(by rw [HL.out]; exact hlt)) := List.getElem?_eq_getElem _
      generalize ms[i]'(by rw [HL.out]; exact hlt) = x at hx
      obtain ⟨K, hK⟩ : ∃ K : Nat, K = L - 1 - i := ⟨_, rfl⟩
      have hKL : K < L := by omega
      have hy : ms[K]? = some (ms[K]'(by rw [HL.out]; exact hKL)) := List.getElem?_eq_getElem _
      generalize ms[K]'(by rw [HL.out]; exact hKL) = y at hy
      obtain ⟨b, off, rfl, e1⟩ := (HV.out wr hT.below).cell hx
      have HC : Hid (∀ x, Below W.heap.size W x → x.cell? ⟨b, off + K, none⟩ = some (.string y)) := fun x hx => by
        obtain ⟨b', off', q1, q2⟩ := (HV.out x hx).cell hy
        cases q1; exact q2
      have hs1 := sizes_succ hx
      have hs2 := sizes_take ms (i + 1)
      have hs3 := sizes_cut ms (L - (i + 1))
      have hM := HM.out
      have hlen1 : (ms.take i).length = i := by have := HL.out; simp; omega
      have hdp : y :: ms.drop (L - i) = ms.drop (L - (i + 1)) := by
        have := drop_pred (ms := ms) (i := i) (x := y) (by rw [HL.out]; exact hlt) (by rw [HL.out, ← hK]; exact hy)
        rw [HL.out] at this; exact this
      have hs4 := congrArg sizes hdp
      rw [sizes_cons] at hs4
      have HI1 : Hid (Calls Try.prog 11 #[.pointer (some ⟨tb, 0, none⟩), .int .i64 i, .string x] wr fun e w' => e = .returned (.bool true) ∧ Three W.heap.size W w' ta tb tc ms (ms.take (i + 1)) (ms.drop (L - i)) (10000 + 44 * i + 22)) := by
        have hc := hT.rot.insert (i := i) (y := x) (by omega) (by omega) (by omega) (by omega)
        refine hc.mono ?_
        rintro e w' ⟨rfl, q⟩
        refine ⟨rfl, ?_⟩
        have e2 : (ms.take i).take i ++ x :: (ms.take i).drop i = ms.take (i + 1) := by
          obtain ⟨h1, e⟩ := List.getElem?_eq_some_iff.1 hx
          rw [List.take_take, Nat.min_self, List.drop_eq_nil_of_le (by omega), List.take_succ_eq_append_getElem h1, e]
        rw [e2] at q
        exact q.rot.rot
      have HI2 : Hid (∀ w2, Three W.heap.size W w2 ta tb tc ms (ms.take (i + 1)) (ms.drop (L - i)) (10000 + 44 * i + 22) → Calls Try.prog 11 #[.pointer (some ⟨tc, 0, none⟩), .int .i64 0, .string y] w2 fun e w' => e = .returned (.bool true) ∧ Three W.heap.size W w' ta tb tc ms (ms.take (i + 1)) (ms.drop (L - (i + 1))) (10000 + 44 * (i + 1))) := by
        intro w2 q2
        have hc := q2.rot.rot.insert (i := 0) (y := y) (by rw [List.length_drop, HL.out]; omega) (by omega) (by omega) (Nat.zero_le _)
        refine Calls.mono (show Calls Try.prog 11 #[.pointer (some ⟨tc, 0, none⟩), .int .i64 0, .string y] w2 _ from hc) ?_
        rintro e w' ⟨rfl, q⟩
        refine ⟨rfl, ?_⟩
        simp only [List.take_zero, List.nil_append, List.drop_zero] at q
        rw [hdp] at q
        exact q.rot
      have hd2 : decide ((i : Int) < (L : Int)) = true := by simp; omega
      have hKi : (L : Int) - 1 - (i : Int) = (K : Int) := by omega
      have hw1 : IntKind.i64.wrap ((L : Int) - 1) = (L : Int) - 1 := by rw [IntKind.wrap_i64]; omega
      have hw2 : IntKind.i64.wrap ((L : Int) - 1 - (i : Int)) = (K : Int) := by rw [IntKind.wrap_i64]; omega
      clear hT hx hy hs1 hs2 hs3 hs4 hM hlen1 hdp hK
      go_wp2_with fail
      refine Calls.mono HI1.out ?_
      rintro e w2 ⟨rfl, q2⟩
      have hc2 := HC.out w2 q2.below
      have H2 := HI2.out w2 q2
      have H2' : Hid _ := H2
      clear H2 q2
      go_wp2_with fail
      refine Calls.mono H2'.out ?_
      rintro e w3 ⟨rfl, q3⟩
      have HT3 : Hid (Three W.heap.size W w3 ta tb tc ms (ms.take (i + 1)) (ms.drop (L - (i + 1))) (10000 + 44 * (i + 1))) := q3
      clear q3
      go_wp2_with fail
      go_roundw
      case rel => exact ⟨i + 1, by omega, by go_num, HT3.out⟩
      case measure => simp [intOf]; omega
    · obtain rfl : i = L := by omega
      have hd2 : decide ((i : Int) < (i : Int)) = false := by simp
      rw [Nat.sub_self, List.drop_zero, show ms.take i = ms by rw [← HL.out]; exact List.take_length] at hT
      have H0 : Hid (Three W.heap.size W wr ta tb tc ms ms ms (10000 + 44 * i)) := hT
      have hsm : ((sizes ms : Int) == (sizes ms : Int)) = true := by simp
      clear hT
      go_wp2_with fail
      refine Calls.mono (H0.out.lines (by rw [HL.out]; omega)) ?_
      rintro e w1 ⟨v1, rfl, q1, q2⟩
      have H1 : Hid (Lies nobody w1 v1 ms ∧ Three W.heap.size W w1 ta tb tc ms ms ms (10000 + 44 * i)) := ⟨q1, q2⟩
      clear q1 q2
      go_wp2_with fail
      refine Calls.mono (H1.out.2.same H1.out.1 (HV.out w1 H1.out.2.below) (by rw [HL.out]; omega)) ?_
      rintro e w2 ⟨rfl, q2⟩
      rw [show decide (ms = ms) = true by simp]
      have H2 : Hid (Three W.heap.size W w2 tb tc ta ms ms ms (10000 + 44 * i)) := q2.rot
      clear q2
      go_wp2_with fail
      refine Calls.mono (H2.out.lines (by rw [HL.out]; omega)) ?_
      rintro e w3 ⟨v3, rfl, q1, q2⟩
      have H3 : Hid (Lies nobody w3 v3 ms ∧ Three W.heap.size W w3 tb tc ta ms ms ms (10000 + 44 * i)) := ⟨q1, q2⟩
      clear q1 q2
      go_wp2_with fail
      refine Calls.mono (H3.out.2.same H3.out.1 (HV.out w3 H3.out.2.below) (by rw [HL.out]; omega)) ?_
      rintro e w4 ⟨rfl, q2⟩
      rw [show decide (ms = ms) = true by simp]
      have H4 : Hid (Three W.heap.size W w4 tc ta tb ms ms ms (10000 + 44 * i)) := q2.rot
      clear q2
      go_wp2_with fail
      refine Calls.mono (H4.out.lines (by rw [HL.out]; omega)) ?_
      rintro e w5 ⟨v5, rfl, q1, q2⟩
      have H5 : Hid (Lies nobody w5 v5 ms ∧ Three W.heap.size W w5 tc ta tb ms ms ms (10000 + 44 * i)) := ⟨q1, q2⟩
      clear q1 q2
      go_wp2_with fail
      refine Calls.mono (H5.out.2.same H5.out.1 (HV.out w5 H5.out.2.below) (by rw [HL.out]; omega)) ?_
      rintro e w6 ⟨rfl, q2⟩
      rw [show decide (ms = ms) = true by simp]
      have H6 : Hid (Three W.heap.size W w6 ta tb tc ms ms ms (10000 + 44 * i)) := q2.rot
      clear q2
      go_wp2_with fail
      refine Calls.mono H6.out.bytes ?_
      rintro e w7 ⟨rfl, q2⟩
      have H7 : Hid (Three W.heap.size W w7 tb tc ta ms ms ms (10000 + 44 * i)) := q2.rot
      clear q2
      go_wp2_with fail
      refine Calls.mono H7.out.bytes ?_
      rintro e w8 ⟨rfl, q2⟩
      have H8 : Hid (Three W.heap.size W w8 ta tb tc ms ms ms (10000 + 44 * i)) := q2.rot.rot
      clear q2
      go_wp2_with fail
      refine Calls.mono H8.out.bytes ?_
      rintro e w9 ⟨rfl, q2⟩
      have H9 : Hid (Three W.heap.size W w9 tc ta tb ms ms ms (10000 + 44 * i)) := q2.rot.rot
      clear q2
      go_wp2_with fail
      refine Calls.mono H9.out.bytes ?_
      rintro e w10 ⟨rfl, q2⟩
      have H10 : Hid (Three W.heap.size W w10 tb tc ta ms ms ms (10000 + 44 * i)) := q2.rot.rot
      clear q2
      go_wp2_with fail
      refine Calls.mono (H10.out.shape (by rw [HL.out]; omega)) ?_
      rintro e w11 ⟨v11, rfl, _, q3⟩
      have H11 : Hid _ := q3
      clear q3
      go_wp2_with fail
      rw [HL.out] at H11
      refine Calls.mono H11.out ?_
      rintro e w12 ⟨rfl, q2⟩
      have H12 : Hid (Three W.heap.size W w12 tc ta tb ms ms ms (10000 + 44 * i)) := q2.rot
      clear q2
      go_wp2_with fail
      refine Calls.mono (H12.out.shape (by rw [HL.out]; omega)) ?_
      rintro e w13 ⟨v13, rfl, _, q3⟩
      have H13 : Hid _ := q3
      clear q3
      go_wp2_with fail
      rw [HL.out] at H13
      refine Calls.mono H13.out ?_
      rintro e w14 ⟨rfl, q2⟩
      have H14 : Hid (Below W.heap.size W w14) := q2.below
      clear q2
      go_wp2_with fail
      go_ret
      exact ⟨rfl, H14.out⟩
theorem walk (W : World) (v : Value) (ms : List ByteArray) (hv : Lies nobody W v ms) (hb : ∀ y ∈ ms, y.size ≤ reachBytes) : Calls Try.prog 3 #[v] W fun e w' => e = .returned (.bool true) ∧ Below W.heap.size W w' := by
  by_cases h : ms.length ≤ 300
  · have := sizes_le hb
    have h2 := reachBytes_lt
    refine walk_short W ms v hv h ?_
    have : ms.length * reachBytes ≤ 300 * reachBytes := Nat.mul_le_mul_right _ h
    omega
  · obtain ⟨a, cap, rfl, c1, c2⟩ := hv.form
    exact walk_long W a _ cap (by omega)

set_option maxRecDepth 100000 in
theorem lifted (os : Os) (started : os.Started) (H : Type) (enc : TypeId × Value → H) :
    ReturnsInHanded {} Try.checked os 3 .any (Rows.treeGrowsSpec.pre6 enc Try.prog Try.f3 Rows.treeGrowsRow.domain false) (Rows.treeGrowsSpec.post enc Try.prog Try.f3 false true false false) := by
  refine returnsInHanded_of_change_sized (C := Try.checked) own started (by kernel_rfl) Try.func3
    (ChangeSpec.witness6 (enc := enc) (C := Try.checked) false ⟨#[], #[.slice none 0 0], []⟩ 8 (by kernel_rfl) (by kernel_rfl) (by kernel_rfl) (by kernel_rfl)) ?_
  intro W base args ds gs before hval0 hW hcnd hsized0 _
  have hval : ∀ (j : Nat) t v, Try.f3.params[j]? = some t → args[j]? = some v → Value.okWide Try.prog W .any base t v := hval0
  have hW' := hW
  obtain ⟨p, q, hA0, hV, rfl, hfz, hnd⟩ := hW
  have hA : DataW.TrodAll enc Try.prog W 0 (fun _ => true) true Try.f3.params.toList args.toList ds p := hA0
  have hsized : (DataW.weightsEach Try.prog (Try.f3.params.toList ++ Rows.treeGrowsSpec.plain.varTypes Try.prog) (ds ++ gs)).all (· ≤ reachBytes) = true := hsized0
  rw [Try.params3] at hA hval hsized
  obtain ⟨v0, vs0, d0, ds0, p0, q0, hargs, rfl, rfl, h0, r0⟩ := trodAll_cons hA
  obtain ⟨rfl, rfl, rfl⟩ := trodAll_nil r0
  obtain rfl : args = #[v0] := by cases args; simp_all
  obtain ⟨rfl, rfl⟩ := trodVars_none hV
  have s0 := weights_all hsized (j := 0) rfl rfl
  have k0 := h0
  have lt0 : ∀ x ∈ p0, x.block < W.heap.size := by obtain ⟨m, hm⟩ := k0; exact DataW.trod_lt m _ _ _ hm
  obtain ⟨a0, w0, z0⟩ := strs_form (hval 0 22 v0 rfl rfl) h0
  clear hA0 hval0 hsized0
  refine (walk W v0 a0 w0 (z0 s0)).mono fun e W' ⟨he, bel⟩ => ?_
  subst he
  exact ⟨_, rfl, _, _, _, [], _, [], hW', trodAll_mk1 (shut_bool Try.underlying4 _), (trodAll_cons_mk (Below.trod laidOut (by kernel_rfl) (of_decide_eq_true (by kernel_rfl)) k0 bel lt0) trodAll_mk0), rfl, bel.frame _, fun h => by cases h⟩

theorem over : Rows.treeGrowsRow.holds Try.pinned (OpenSpec.ofChange Rows.treeGrowsSpec) :=
  OpenClaim.holds_of_wide 3 Try.f3 rfl rfl rfl rfl rfl rfl rfl ⟨rfl, rfl, rfl, rfl, rfl⟩ rfl rfl rfl rfl rfl (by kernel_rfl) Try.func3 (by kernel_rfl)
    (of_decide_eq_true (by kernel_rfl)) (by unfold Func.isWrapper; first | (rw [if_pos (by decide +kernel)]; kernel_rfl) | (rw [if_neg (by decide +kernel)]; exact ⟨rfl, rfl⟩))
    (fun os started H enc _ => lifted os started H enc)

end Go.Proofs.Ytfnhbjokokjhfaa.treeGrows
namespace Go.Proofs.Ytfnhbjokokjhfaa
theorem treeGrows_holds : Rows.TreeGrowsSaid := treeGrows.over
#print axioms treeGrows_holds
end Go.Proofs.Ytfnhbjokokjhfaa
