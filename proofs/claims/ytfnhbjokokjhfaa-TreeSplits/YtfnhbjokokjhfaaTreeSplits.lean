/- For all lists of lines and all numbers the statement TreeSplits returns true; no condition. -/
import Derived.Test.YtfnhbjokokjhfaaLaw1
import Derived.ShutString
import Derived.ChangeOld
namespace Go.Proofs.Ytfnhbjokokjhfaa.treeSplits
open Go.ChangeShapes Go.WideShapes Go.ChangeAt Go.RowKit
open Go.ChangeMaps (open_string shut_string)
set_option linter.unusedVariables false

theorem own : ownKnob Try.prog.godebug = none := by kernel_rfl
theorem laidOut : laidOutB Try.prog = true := by kernel_rfl

theorem walk_out (W : World) (a a' : Option Addr) (L cap L' cap' : Nat) (i n : Int) (h : 300 < L ∨ 100 < L') :
    Calls Try.prog 8 #[.slice a L cap, .int .i64 i, .int .i64 n, .slice a' L' cap'] W fun e w' => e = .returned (.bool true) ∧ Below W.heap.size W w' := by
  by_cases h3 : 300 < L
  · have hd : decide ((300 : Int) < (L : Int)) = true := by simp; omega
    go_enter Try.func8, Try.ntmps8
    go_wp2_with fail
    refine (known_any _).mono ?_
    rintro e x1 ⟨rfl, hb1⟩
    go_wp2_with fail
    go_ret
    exact ⟨rfl, hb1⟩
  · have hd : decide ((300 : Int) < (L : Int)) = false := by simp; omega
    have hd2 : decide ((100 : Int) < (L' : Int)) = true := by simp; omega
    go_enter Try.func8, Try.ntmps8
    go_wp2_with fail
    refine (known_any _).mono ?_
    rintro e x1 ⟨rfl, hb1⟩
    go_wp2_with fail
    go_ret
    exact ⟨rfl, hb1⟩
theorem mix_back {ms more : List ByteArray} {T K : Nat} (h : T + K ≤ ms.length) : mix (mix ms more T more.length (T + K)) ((ms.drop T).take K) T K (T + more.length) = ms := by
  have l1 : (ms.take T).length = T := by simp; omega
  have e1 : (mix ms more T more.length (T + K)).take T = ms.take T := by
    unfold mix
    rw [List.take_append_of_le_length (by omega), List.take_take, Nat.min_self]
  have e2 : (mix ms more T more.length (T + K)).drop (T + more.length) = ms.drop (T + K) := by
    have l2 : (ms.take T ++ more.take more.length).length = T + more.length := by rw [List.length_append, l1, List.take_length]
    unfold mix
    rw [← List.append_assoc, ← l2, List.drop_left]
  unfold mix at e1 e2 ⊢
  rw [e1, e2, List.take_take, Nat.min_self, ← List.drop_drop, List.take_append_drop, List.take_append_drop]
set_option maxHeartbeats 8000000 in
set_option maxRecDepth 100000 in
theorem walk_in (W : World) (ms more : List ByteArray) (v v' : Value) (i n : Int) (hv : Lies nobody W v ms) (hv' : Lies nobody W v' more) (h : ms.length ≤ 300) (h' : more.length ≤ 100) (hb : sizes ms < 2 ^ 60) (hb' : sizes more < 2 ^ 60)
    (hi : -9223372036854775808 ≤ i ∧ i ≤ 9223372036854775807) (hn : -9223372036854775808 ≤ n ∧ n ≤ 9223372036854775807) :
    Calls Try.prog 8 #[v, .int .i64 i, .int .i64 n, v'] W fun e w' => e = .returned (.bool true) ∧ Below W.heap.size W w' := by
  obtain ⟨a, cap, rfl, c1, c2⟩ := hv.form
  obtain ⟨a', cap', rfl, c1', c2'⟩ := hv'.form
  have HM : Hid (sizes ms < 2 ^ 60 ∧ sizes more < 2 ^ 60) := ⟨hb, hb'⟩
  have HV : Hid (Lies nobody W (.slice a ms.length cap) ms) := hv
  have HV' : Hid (Lies nobody W (.slice a' more.length cap') more) := hv'
  obtain ⟨L, hL⟩ : ∃ L, ms.length = L := ⟨_, rfl⟩
  obtain ⟨M, hM⟩ : ∃ M, more.length = M := ⟨_, rfl⟩
  have HL : Hid (ms.length = L ∧ more.length = M) := ⟨hL, hM⟩
  rw [hL] at c1 h HV ⊢
  rw [hM] at c1' h' HV' ⊢
  have hd : decide ((300 : Int) < (L : Int)) = false := by simp; omega
  have hd' : decide ((100 : Int) < (M : Int)) = false := by simp; omega
  unfold maxLen at c2 c2'
  clear hv hv' hb hb' hL hM
  go_enter Try.func8, Try.ntmps8
  go_wp2_with fail
  refine (known_any _).mono ?_
  rintro e x1 ⟨rfl, hb1⟩
  have HB1 : Hid (Below W.heap.size W x1) := hb1
  clear hb1
  go_wp2_with fail
  refine (new_any (HV.out.below HB1.out (Nat.le_refl _)) (by rw [HL.out.1]; omega) (by have := HM.out; omega)).mono ?_
  rintro e x2 ⟨rfl, ha⟩
  generalize x1.heap.size = t at *
  have H0 : Hid (One W.heap.size W x2 t ms 10000 [(.slice a' M cap', more), (.slice a L cap, ms)]) := (one_new HB1.out (Nat.le_refl _) (by intro x hx; simp at hx; rcases hx with rfl | rfl; exact HV'.out; exact HV.out) rfl ha).mono (by rw [HL.out.1]; omega)
  clear ha HB1 HV HV'
  obtain ⟨T, hT⟩ : ∃ T : Nat, max i 0 % ((L : Int) + 1) = (T : Int) := ⟨(max i 0 % ((L : Int) + 1)).toNat, by rw [Int.toNat_of_nonneg (Int.emod_nonneg _ (by omega))]⟩
  have hTL : T ≤ L := by have := Int.emod_lt_of_pos (max i 0) (show (0 : Int) < (L : Int) + 1 by omega); omega
  obtain ⟨K, hK⟩ : ∃ K : Nat, max n 0 % ((L : Int) - (T : Int) + 1) = (K : Int) := ⟨(max n 0 % ((L : Int) - (T : Int) + 1)).toNat, by rw [Int.toNat_of_nonneg (Int.emod_nonneg _ (by omega))]⟩
  have hKL : T + K ≤ L := by have := Int.emod_lt_of_pos (max n 0) (show (0 : Int) < (L : Int) - (T : Int) + 1 by omega); omega
  obtain ⟨l1, hl1⟩ : ∃ l1, mix ms more T M (T + K) = l1 := ⟨_, rfl⟩
  obtain ⟨old, hold⟩ : ∃ old, (ms.drop T).take K = old := ⟨_, rfl⟩
  have HO : Hid (old.length = K ∧ sizes old ≤ sizes ms ∧ l1.length = T + M + (L - (T + K)) ∧ sizes l1 ≤ sizes ms + sizes more ∧ mix l1 old T old.length (T + M) = ms) := by
    have z1 := HL.out.1
    have z2 := HL.out.2
    have o1 : old.length = K := by rw [← hold]; simp; omega
    refine ⟨o1, ?_, ?_, ?_, ?_⟩
    · rw [← hold]; exact Nat.le_trans (sizes_take _ _) (sizes_drop _ _)
    · rw [← hl1, ← z2, mix_len (by omega) (Nat.le_refl _), z1]
    · rw [← hl1, ← z2]
      have := mix_sizes (ls := ms) (ms := more) (i := T) (a := more.length) (b := T + K) (by omega)
      rw [List.take_length] at this; exact this
    · rw [o1, ← hl1, ← hold, ← z2]; exact mix_back (by omega)
  obtain ⟨A, hA⟩ : ∃ A, l1.length = A := ⟨_, rfl⟩
  have HA : Hid (l1.length = A) := hA
  have hAe : A = T + M + (L - (T + K)) := by rw [← hA]; exact HO.out.2.2.1
  have hAi : (L : Int) - (K : Int) + (M : Int) = (A : Int) := by omega
  have hA5 : A ≤ 500 := by omega
  clear hAe
  have HOld : Hid ((ms.drop T).take K = old) := hold
  have HMix : Hid (mix ms more T M (T + K) = l1) := hl1
  clear hA hl1 hold
  go_wp2_with fail
  refine Calls.mono (H0.out.part (i := T) (n := K) (by rw [HL.out.1]; omega) (by rw [HL.out.1]; omega)) ?_
  rintro e x3 ⟨ga, rfl, q⟩
  rw [HOld.out] at q
  have H1 : Hid (One W.heap.size W x3 t ms 10000 [(.slice (some ⟨ga, 0, none⟩) K K, old), (.slice a' M cap', more), (.slice a L cap, ms)]) := q
  clear q H0
  go_wp2_with fail
  refine Calls.mono (H1.out.splice (v := .slice a' M cap') (ms := more) (by simp) (i := T) (n := K) (by rw [HL.out.1]; omega) (by rw [HL.out.1, HL.out.2]; omega) (by rw [HL.out.2]; omega) (by have := HM.out; omega)) ?_
  rintro e x4 ⟨rfl, q⟩
  rw [HL.out.2, HMix.out] at q
  have H2 : Hid (One W.heap.size W x4 t l1 20000 [(.slice (some ⟨ga, 0, none⟩) K K, old), (.slice a' M cap', more), (.slice a L cap, ms)]) := q.mono (by omega)
  clear q H1
  go_wp2_with fail
  refine Calls.mono (H2.out.lines (by rw [HA.out]; omega)) ?_
  rintro e x5 ⟨gl, rfl, q⟩
  rw [HA.out] at q ⊢
  have H3 : Hid (One W.heap.size W x5 t l1 20000 [(.slice (some ⟨gl, 0, none⟩) A A, l1), (.slice (some ⟨ga, 0, none⟩) K K, old), (.slice a' M cap', more), (.slice a L cap, ms)]) := q
  clear q H2
  go_wp2_with fail
  go_loopw [16] (fun vj wr => ∃ j : Nat, j ≤ A ∧ vj = .int .i64 j ∧ One W.heap.size W wr t l1 20000 [(.slice (some ⟨gl, 0, none⟩) A A, l1), (.slice (some ⟨ga, 0, none⟩) K K, old), (.slice a' M cap', more), (.slice a L cap, ms)]) (fun vj _ => A - (intOf vj).toNat)
  case atStart => exact ⟨0, Nat.zero_le _, rfl, H3.out⟩
  case round =>
    obtain ⟨j, hj, rfl, hO⟩ := hrel
    by_cases hlt : j < A
    · have hx : l1[j]? = some (l1[j]'(by rw [HA.out]; exact hlt)) := List.getElem?_eq_getElem _
      generalize l1[j]'(by rw [HA.out]; exact hlt) = x at hx
      have HG : Hid (Calls Try.prog 20 #[.pointer (some ⟨t, 0, none⟩), .int .i64 j] wr fun e w' => e = .returned (.tuple #[.string x, .bool true]) ∧ ∃ q, w' = wr.drewN q) := hO.get (by rw [HA.out]; omega) hx
      obtain ⟨b1, o1, e1, e2⟩ := (hO.lies (x := (.slice (some ⟨gl, 0, none⟩) A A, l1)) (by simp)).cell hx
      cases e1
      rw [Nat.zero_add] at e2
      have HN : Hid (∀ q, One W.heap.size W (wr.drewN q) t l1 20000 [(.slice (some ⟨gl, 0, none⟩) A A, l1), (.slice (some ⟨ga, 0, none⟩) K K, old), (.slice a' M cap', more), (.slice a L cap, ms)]) := fun q => hO.drewN q
      have hd1 : decide ((j : Int) < (A : Int)) = true := by simp; omega
      clear hO hx
      go_wp2_with (go_at_call 20; refine Calls.mono HG.out ?_; rintro e w1 ⟨rfl, q, rfl⟩)
      go_roundw
      case rel => exact ⟨j + 1, by omega, by go_num, HN.out _⟩
      case measure => simp [intOf]; omega
    · obtain rfl : j = A := by omega
      have hd1 : decide ((j : Int) < (j : Int)) = false := by simp
      have H4 : Hid (One W.heap.size W wr t l1 20000 [(.slice (some ⟨gl, 0, none⟩) j j, l1), (.slice (some ⟨ga, 0, none⟩) K K, old), (.slice a' M cap', more), (.slice a L cap, ms)]) := hO
      have hz := HO.out
      have HS5 : Hid (Calls Try.prog 27 #[.pointer (some ⟨t, 0, none⟩), .int .i64 T, .int .i64 M, .slice (some ⟨ga, 0, none⟩) K K] wr fun e w' => e = .returned (.bool true) ∧ One W.heap.size W w' t ms 30000 [(.slice (some ⟨gl, 0, none⟩) j j, l1), (.slice (some ⟨ga, 0, none⟩) K K, old), (.slice a' M cap', more), (.slice a L cap, ms)]) := by
        refine Calls.mono (H4.out.splice (v := .slice (some ⟨ga, 0, none⟩) K K) (ms := old) (by simp) (i := T) (n := M) (by omega) (by omega) (by omega) (by have := HM.out; omega)) ?_
        rintro e w' ⟨rfl, q⟩
        rw [hz.2.2.2.2] at q
        exact ⟨rfl, q.mono (by omega)⟩
      clear hO hz
      go_wp2_with fail
      refine Calls.mono HS5.out ?_
      rintro e w5 ⟨rfl, q⟩
      have H5 : Hid (One W.heap.size W w5 t ms 30000 [(.slice (some ⟨gl, 0, none⟩) j j, l1), (.slice (some ⟨ga, 0, none⟩) K K, old), (.slice a' M cap', more), (.slice a L cap, ms)]) := q
      clear q HS5 H4
      have hwA : IntKind.i64.wrap ((L : Int) - (K : Int)) = (L : Int) - (K : Int) := by rw [IntKind.wrap_i64]; omega
      have hwB : IntKind.i64.wrap ((L : Int) - (K : Int) + (M : Int)) = (j : Int) := by rw [IntKind.wrap_i64]; omega
      go_wp2_with fail
      refine Calls.mono (H5.out.lines (by rw [HL.out.1]; omega)) ?_
      rintro e w6 ⟨g6, rfl, q⟩
      have H6 : Hid _ := q
      clear q H5
      go_wp2_with fail
      refine Calls.mono (same_true (l := ms) (H6.out.lies (x := (.slice (some ⟨g6, 0, none⟩) ms.length ms.length, ms)) (by simp)) (H6.out.lies (x := (.slice a L cap, ms)) (by simp)) (by rw [HL.out.1]; omega)) ?_
      rintro e w7 ⟨rfl, q7, rfl⟩
      have H7 : Hid (Below W.heap.size W (w6.drewN q7)) := (H6.out.drewN q7).below
      clear H6
      generalize w6.drewN q7 = w7 at *
      go_wp2_with fail
      go_ret
      exact ⟨rfl, H7.out⟩
theorem walk (W : World) (v : Value) (ms : List ByteArray) (hv : Lies nobody W v ms) (hb : ∀ y ∈ ms, y.size ≤ reachBytes) (i : Int) (hi : (Lit.int .i64 i).wf = true) (n : Int) (hn : (Lit.int .i64 n).wf = true) (v' : Value) (more : List ByteArray) (hv' : Lies nobody W v' more) (hb' : ∀ y ∈ more, y.size ≤ reachBytes) : Calls Try.prog 8 #[v, .int .i64 i, .int .i64 n, v'] W fun e w' => e = .returned (.bool true) ∧ Below W.heap.size W w' := by
  have h2 := reachBytes_lt
  by_cases h : ms.length ≤ 300 ∧ more.length ≤ 100
  · have h3 := sizes_le hb
    have h4 := sizes_le hb'
    have : ms.length * reachBytes ≤ 300 * reachBytes := Nat.mul_le_mul_right _ h.1
    have : more.length * reachBytes ≤ 100 * reachBytes := Nat.mul_le_mul_right _ h.2
    exact walk_in W ms more v v' i n hv hv' h.1 h.2 (by omega) (by omega) (i64_range hi) (i64_range hn)
  · obtain ⟨a, cap, rfl, c1, c2⟩ := hv.form
    obtain ⟨a', cap', rfl, c1', c2'⟩ := hv'.form
    exact walk_out W a a' _ cap _ cap' i n (by omega)

set_option maxRecDepth 100000 in
theorem lifted (os : Os) (started : os.Started) (H : Type) (enc : TypeId × Value → H) :
    ReturnsInHanded {} Try.checked os 8 .any (Rows.treeSplitsSpec.pre6 enc Try.prog Try.f8 Rows.treeSplitsRow.domain false) (Rows.treeSplitsSpec.post enc Try.prog Try.f8 false true false false) := by
  refine returnsInHanded_of_change_sized (C := Try.checked) own started (by kernel_rfl) Try.func8
    (ChangeSpec.witness6 (enc := enc) (C := Try.checked) false ⟨#[], #[.slice none 0 0, .int .i64 0, .int .i64 0, .slice none 0 0], []⟩ 8 (by kernel_rfl) (by kernel_rfl) (by kernel_rfl) (by kernel_rfl)) ?_
  intro W base args ds gs before hval0 hW hcnd hsized0 _
  have hval : ∀ (j : Nat) t v, Try.f8.params[j]? = some t → args[j]? = some v → Value.okWide Try.prog W .any base t v := hval0
  have hW' := hW
  obtain ⟨p, q, hA0, hV, rfl, hfz, hnd⟩ := hW
  have hA : DataW.TrodAll enc Try.prog W 0 (fun _ => true) true Try.f8.params.toList args.toList ds p := hA0
  have hsized : (DataW.weightsEach Try.prog (Try.f8.params.toList ++ Rows.treeSplitsSpec.plain.varTypes Try.prog) (ds ++ gs)).all (· ≤ reachBytes) = true := hsized0
  rw [Try.params8] at hA hval hsized
  obtain ⟨v0, vs0, d0, ds0, p0, q0, hargs, rfl, rfl, h0, r0⟩ := trodAll_cons hA
  obtain ⟨v1, vs1, d1, ds1, p1, q1, rfl, rfl, rfl, h1, r1⟩ := trodAll_cons r0
  obtain ⟨v2, vs2, d2, ds2, p2, q2, rfl, rfl, rfl, h2, r2⟩ := trodAll_cons r1
  obtain ⟨v3, vs3, d3, ds3, p3, q3, rfl, rfl, rfl, h3, r3⟩ := trodAll_cons r2
  obtain ⟨rfl, rfl, rfl⟩ := trodAll_nil r3
  obtain rfl : args = #[v0, v1, v2, v3] := by cases args; simp_all
  obtain ⟨rfl, rfl⟩ := trodVars_none hV
  have s0 := weights_all hsized (j := 0) rfl rfl
  have s1 := weights_all hsized (j := 1) rfl rfl
  have s2 := weights_all hsized (j := 2) rfl rfl
  have s3 := weights_all hsized (j := 3) rfl rfl
  have k0 := h0
  have lt0 : ∀ x ∈ p0, x.block < W.heap.size := by obtain ⟨m, hm⟩ := k0; exact DataW.trod_lt m _ _ _ hm
  obtain ⟨a0, w0, z0⟩ := strs_form (hval 0 22 v0 rfl rfl) h0
  obtain ⟨a1, rfl, rfl, rfl, w1⟩ := open_int under3 (hval 1 3 v1 rfl rfl) h1
  obtain ⟨a2, rfl, rfl, rfl, w2⟩ := open_int under3 (hval 2 3 v2 rfl rfl) h2
  have k3 := h3
  have lt3 : ∀ x ∈ p3, x.block < W.heap.size := by obtain ⟨m, hm⟩ := k3; exact DataW.trod_lt m _ _ _ hm
  obtain ⟨a3, w3, z3⟩ := strs_form (hval 3 22 v3 rfl rfl) h3
  clear hA0 hval0 hsized0
  refine (walk W v0 a0 w0 (z0 s0) a1 w1 a2 w2 v3 a3 w3 (z3 s3)).mono fun e W' ⟨he, bel⟩ => ?_
  subst he
  exact ⟨_, rfl, _, _, _, [], _, [], hW', trodAll_mk1 (shut_bool Try.underlying4 _), (trodAll_cons_mk (Below.trod laidOut (by kernel_rfl) (of_decide_eq_true (by kernel_rfl)) k0 bel lt0) (trodAll_cons_mk (shut_int under3 w1) (trodAll_cons_mk (shut_int under3 w2) (trodAll_cons_mk (Below.trod laidOut (by kernel_rfl) (of_decide_eq_true (by kernel_rfl)) k3 bel lt3) trodAll_mk0)))), rfl, bel.frame _, fun h => by cases h⟩

theorem over : Rows.treeSplitsRow.holds Try.pinned (OpenSpec.ofChange Rows.treeSplitsSpec) :=
  OpenClaim.holds_of_wide 8 Try.f8 rfl rfl rfl rfl rfl rfl rfl ⟨rfl, rfl, rfl, rfl, rfl⟩ rfl rfl rfl rfl rfl (by kernel_rfl) Try.func8 (by kernel_rfl)
    (of_decide_eq_true (by kernel_rfl)) (by unfold Func.isWrapper; first | (rw [if_pos (by decide +kernel)]; kernel_rfl) | (rw [if_neg (by decide +kernel)]; exact ⟨rfl, rfl⟩))
    (fun os started H enc _ => lifted os started H enc)

end Go.Proofs.Ytfnhbjokokjhfaa.treeSplits
namespace Go.Proofs.Ytfnhbjokokjhfaa
theorem treeSplits_holds : Rows.TreeSplitsSaid := treeSplits.over
#print axioms treeSplits_holds
end Go.Proofs.Ytfnhbjokokjhfaa
