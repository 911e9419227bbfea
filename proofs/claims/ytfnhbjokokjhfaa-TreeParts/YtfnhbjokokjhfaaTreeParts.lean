/- For every list of lines, every number and every string the statement TreeParts returns true; no condition. -/
import Derived.Test.YtfnhbjokokjhfaaLaw1
import Derived.ShutString
import Derived.ChangeOld
import Derived.Laws.AppendOwnNone
namespace Go.Proofs.Ytfnhbjokokjhfaa.treeParts
open Go.ChangeShapes Go.WideShapes Go.ChangeAt Go.RowKit
open Go.ChangeMaps (open_string shut_string)
set_option linter.unusedVariables false

theorem own : ownKnob Try.prog.godebug = none := by kernel_rfl
theorem laidOut : laidOutB Try.prog = true := by kernel_rfl

theorem walk_out (W : World) (a : Option Addr) (L cap : Nat) (i : Int) (s : ByteArray) (h : 300 < L ∨ L = 0) :
    Calls Try.prog 5 #[.slice a L cap, .int .i64 i, .string s] W fun e w' => e = .returned (.bool true) ∧ Below W.heap.size W w' := by
  rcases h with h | h
  · have hd : decide ((300 : Int) < (L : Int)) = true := by simp; omega
    go_enter Try.func5, Try.ntmps5
    go_wp2_with fail
    refine (known_any _).mono ?_
    rintro e x1 ⟨rfl, hb1⟩
    go_wp2_with fail
    go_ret
    exact ⟨rfl, hb1⟩
  · subst h
    go_enter Try.func5, Try.ntmps5
    go_wp2_with fail
    refine (known_any _).mono ?_
    rintro e x1 ⟨rfl, hb1⟩
    go_wp2_with fail
    go_ret
    exact ⟨rfl, hb1⟩
set_option maxHeartbeats 8000000 in
set_option maxRecDepth 100000 in
theorem walk_in (W : World) (ms : List ByteArray) (v : Value) (i : Int) (s : ByteArray) (hi : -9223372036854775808 ≤ i ∧ i ≤ 9223372036854775807) (hv : Lies nobody W v ms) (h : ms.length ≤ 300) (h0 : 0 < ms.length) (hb : sizes ms < 2 ^ 60) (hs : s.size < 2 ^ 60) :
    Calls Try.prog 5 #[v, .int .i64 i, .string s] W fun e w' => e = .returned (.bool true) ∧ Below W.heap.size W w' := by
  obtain ⟨a, cap, rfl, c1, c2⟩ := hv.form
  have HV : Hid (Lies nobody W (.slice a ms.length cap) ms) := hv
  have HM : Hid (sizes ms < 2 ^ 60 ∧ s.size < 2 ^ 60) := ⟨hb, hs⟩
  obtain ⟨L, hL⟩ : ∃ L, ms.length = L := ⟨_, rfl⟩
  have HL : Hid (ms.length = L) := hL
  rw [hL] at c1 h h0 HV ⊢
  have hd : decide ((300 : Int) < (L : Int)) = false := by simp; omega
  have hd0 : ((L : Int) == 0) = false := by simp; omega
  unfold maxLen at c2
  clear hv hb hL hs
  go_enter Try.func5, Try.ntmps5
  go_wp2_with fail
  refine (known_any _).mono ?_
  rintro e x1 ⟨rfl, hb1⟩
  have HB1 : Hid (Below W.heap.size W x1) := hb1
  clear hb1
  go_wp2_with fail
  refine (new_any (HV.out.below HB1.out (Nat.le_refl _)) (by rw [HL.out]; omega) (by have := HM.out; omega)).mono ?_
  rintro e x2 ⟨rfl, ha⟩
  generalize x1.heap.size = t at *
  have H0 : Hid (One W.heap.size W x2 t ms 10000 [(.slice a L cap, ms)]) := (one_new HB1.out (Nat.le_refl _) (by intro x hx; simp at hx; rw [hx]; exact HV.out) rfl ha).mono (by rw [HL.out]; omega)
  clear ha HB1
  obtain ⟨K, hK⟩ : ∃ K : Nat, max i 0 % (L : Int) = (K : Int) := ⟨(max i 0 % (L : Int)).toNat, by rw [Int.toNat_of_nonneg (Int.emod_nonneg _ (by omega))]⟩
  have hKL : K < L := by have := Int.emod_lt_of_pos (max i 0) (show (0 : Int) < (L : Int) by omega); omega
  obtain ⟨N, hN⟩ : ∃ N : Nat, N = L - K := ⟨_, rfl⟩
  have hNi : (L : Int) - (K : Int) = (N : Int) := by omega
  have hwN : IntKind.i64.wrap ((L : Int) - (K : Int)) = (N : Int) := by rw [IntKind.wrap_i64]; omega
  have HN : Hid (N = L - K) := hN
  have hKN : K + N = L := by omega
  have hNL : N ≤ 300 := by omega
  have hx : ms[K]? = some (ms[K]'(by rw [HL.out]; exact hKL)) := List.getElem?_eq_getElem _
  generalize ms[K]'(by rw [HL.out]; exact hKL) = old at hx
  have HX : Hid (ms[K]? = some old) := hx
  have hos : sizes (ms.take (K + 1)) = sizes (ms.take K) + old.size := sizes_succ hx
  have hot := sizes_take ms (K + 1)
  have HSZ : Hid (old.size ≤ sizes ms) := by show old.size ≤ sizes ms; omega
  have HE : Hid (ms.take K ++ ms.drop K = ms) := List.take_append_drop _ _
  have HLT : Hid (((ms.drop 0).take K) = ms.take K ∧ ((ms.drop K).take N) = ms.drop K ∧ (ms.take K).length = K ∧ (ms.drop K).length = N) := by
    have := HL.out
    exact ⟨by simp, by rw [List.take_of_length_le (by simp; omega)], by simp; omega, by simp; omega⟩
  obtain ⟨i9, hi9, z0, z1, z2⟩ := info_parts info9
  clear hN hx hos hot
  go_wp2_with fail
  have HP1 : Hid (Calls Try.prog 19 #[.pointer (some ⟨t, 0, none⟩), .int .i64 0, .int .i64 K] x2 fun e w' => ∃ gb, e = .returned (.tuple #[.slice (some ⟨gb, 0, none⟩) K K, .bool true]) ∧ One W.heap.size W w' t ms 10000 [(.slice (some ⟨gb, 0, none⟩) K K, ms.take K), (.slice a L cap, ms)]) := by
    have := H0.out.part (i := 0) (n := K) (by rw [HL.out]; omega) (by rw [HL.out]; omega)
    rw [HLT.out.1] at this; exact this
  refine Calls.mono HP1.out ?_
  rintro e x3 ⟨ga, rfl, q⟩
  have H1 : Hid (One W.heap.size W x3 t ms 10000 [(.slice (some ⟨ga, 0, none⟩) K K, ms.take K), (.slice a L cap, ms)]) := q
  clear q HP1 H0
  go_wp2_with fail
  have HP2 : Hid (Calls Try.prog 19 #[.pointer (some ⟨t, 0, none⟩), .int .i64 K, .int .i64 N] x3 fun e w' => ∃ gb, e = .returned (.tuple #[.slice (some ⟨gb, 0, none⟩) N N, .bool true]) ∧ One W.heap.size W w' t ms 10000 [(.slice (some ⟨gb, 0, none⟩) N N, ms.drop K), (.slice (some ⟨ga, 0, none⟩) K K, ms.take K), (.slice a L cap, ms)]) := by
    have := H1.out.part (i := K) (n := N) (by rw [HL.out]; omega) (by rw [HL.out]; omega)
    rw [HLT.out.2.1] at this; exact this
  refine Calls.mono HP2.out ?_
  rintro e x4 ⟨gb, rfl, q⟩
  have H2 : Hid (One W.heap.size W x4 t ms 10000 [(.slice (some ⟨gb, 0, none⟩) N N, ms.drop K), (.slice (some ⟨ga, 0, none⟩) K K, ms.take K), (.slice a L cap, ms)]) := q
  clear q HP2 H1
  have N1 : Hid (∀ j u, (strs (ms.take K))[j]? = some u → x4.cell? ((⟨ga, 0, none⟩ : Addr).add j) = some u) := lies_news (H2.out.lies (x := (.slice (some ⟨ga, 0, none⟩) K K, ms.take K)) (by simp))
  have L1 : Hid ((strs (ms.take K)).length = K * 1) := by show (strs (ms.take K)).length = K * 1; simp only [strs, List.length_map]; have := HLT.out.2.2.1; omega
  have L2 : Hid ((strs (ms.drop K)).length = N * 1) := by show (strs (ms.drop K)).length = N * 1; simp only [strs, List.length_map]; have := HLT.out.2.2.2; omega
  have O1 : Hid (∀ u ∈ strs (ms.take K), u.oneCell' = true) := strs_one _
  have O2 : Hid (∀ u ∈ strs (ms.drop K), u.oneCell' = true) := strs_one _
  have A1 : Hid (∀ v1 w1, w1.ownsRow x4.heap.size 9 1 v1 (0 + K) ([] ++ strs (ms.take K)) → x4.grownBy w1 (Value.slice none 0 0).ownBlock → (∃ a1 c1, v1 = .slice a1 K c1) ∧ Hid (w1.ownsRow x4.heap.size 9 1 v1 K (strs (ms.take K)) ∧ Below x4.heap.size x4 w1 ∧ (∀ k, v1.ownBlock = some k → x4.heap.size ≤ k))) := by
    intro v1 w1 ho hg
    rw [Nat.zero_add, List.nil_append] at ho
    refine ⟨owns_form ho, ho, below_grown (Below.refl _ _) (Nat.le_refl _) hg (fun k hk => by cases hk), fun k hk => (ho.lt k hk).1⟩
  have A2 : Hid (∀ v1 w1 v2 w2, (w1.ownsRow x4.heap.size 9 1 v1 K (strs (ms.take K)) ∧ Below x4.heap.size x4 w1 ∧ (∀ k, v1.ownBlock = some k → x4.heap.size ≤ k)) → w2.ownsRow x4.heap.size 9 1 v2 (K + N) (strs (ms.take K) ++ strs (ms.drop K)) → w1.grownBy w2 v1.ownBlock →
      (∃ a1 c1, v2 = .slice a1 L c1) ∧ Hid (One W.heap.size W w2 t ms 10000 [(v2, ms), (.slice (some ⟨gb, 0, none⟩) N N, ms.drop K), (.slice (some ⟨ga, 0, none⟩) K K, ms.take K), (.slice a L cap, ms)])) := by
    rintro v1 w1 v2 w2 ⟨q1, q2, q3⟩ ho hg
    have hb := below_grown q2 q2.size hg q3
    have e : strs (ms.take K) ++ strs (ms.drop K) = strs ms := by simp only [strs, ← List.map_append, HE.out]
    rw [hKN, e] at ho
    refine ⟨owns_form ho, H2.out.more (fun o hlt => owns_lies (by rw [HL.out]; exact ho) hlt) hb⟩
  have N2 : Hid (∀ w1, Below x4.heap.size x4 w1 → ∀ j u, (strs (ms.drop K))[j]? = some u → w1.cell? ((⟨gb, 0, none⟩ : Addr).add j) = some u) := fun w1 hb => lies_news ((H2.out.lies (x := (.slice (some ⟨gb, 0, none⟩) N N, ms.drop K)) (by simp)).below hb (Nat.le_refl _))
  have ON : Hid (x4.ownsRow x4.heap.size 9 1 (.slice none 0 0) 0 []) := World.ownsRow_nil _ _ _ _
  go_wp2_with (first
    | (at_builtin; refine wpList_append_own _ rfl (.tmp 58) (.tmp 59) 22 rfl x4.heap.size 9 i9 _ 1 16 Try.underlying22 hi9 z0 z1 z2 rfl (by decide) (.slice none 0 0) 0 [] rfl ON.out ⟨ga, 0, none⟩ K K (strs (ms.take K)) rfl L1.out N1.out O1.out (by unfold maxLen; omega) (by omega) (Nat.le_refl _) ?_; intro v1 w1 ho1 hg1 _; obtain ⟨⟨a1, c1', e1⟩, HQ1⟩ := A1.out v1 w1 ho1 hg1; subst e1; clear ho1 hg1)
    | (at_builtin; refine wpList_append_own _ rfl (.tmp 61) (.tmp 62) 22 rfl x4.heap.size 9 i9 _ 1 16 Try.underlying22 hi9 z0 z1 z2 rfl (by decide) (.slice a1 K c1') K (strs (ms.take K)) rfl HQ1.out.1 ⟨gb, 0, none⟩ N N (strs (ms.drop K)) rfl L2.out (N2.out _ HQ1.out.2.1) O2.out (by unfold maxLen; omega) (by omega) HQ1.out.2.1.size ?_; intro v2 w2 ho2 hg2 _; obtain ⟨⟨a2, c2', e2⟩, HQ2⟩ := A2.out _ w1 v2 w2 HQ1.out ho2 hg2; subst e2; clear ho2 hg2))
  refine Calls.mono (HQ2.out.get (by rw [HL.out]; omega) HX.out) ?_
  rintro e w3 ⟨rfl, q, rfl⟩
  have H3 : Hid (One W.heap.size W (w2.drewN q) t ms 10000 [(.slice a2 L c2', ms), (.slice (some ⟨gb, 0, none⟩) N N, ms.drop K), (.slice (some ⟨ga, 0, none⟩) K K, ms.take K), (.slice a L cap, ms)]) := HQ2.out.drewN q
  clear HQ2 HQ1 A1 A2 N1 N2 ON H2
  generalize w2.drewN q = w3 at *
  go_wp2_with fail
  refine Calls.mono (H3.out.set (by rw [HL.out]; omega) (by omega) (y := s) (i := K) (by have := HM.out; omega) (by rw [HL.out]; exact hKL)) ?_
  rintro e w4 ⟨rfl, q4⟩
  have H4 : Hid (One W.heap.size W w4 t (ms.set K s) 10022 [(.slice a2 L c2', ms), (.slice (some ⟨gb, 0, none⟩) N N, ms.drop K), (.slice (some ⟨ga, 0, none⟩) K K, ms.take K), (.slice a L cap, ms)]) := q4
  clear q4 H3
  go_wp2_with fail
  have hget : Hid ((ms.set K s)[K]? = some s) := by show (ms.set K s)[K]? = some s; rw [List.getElem?_set_self (by rw [HL.out]; exact hKL)]
  refine Calls.mono (H4.out.get (by rw [List.length_set, HL.out]; omega) hget.out) ?_
  rintro e w5 ⟨rfl, q5, rfl⟩
  have H5 : Hid (One W.heap.size W (w4.drewN q5) t (ms.set K s) 10022 [(.slice a2 L c2', ms), (.slice (some ⟨gb, 0, none⟩) N N, ms.drop K), (.slice (some ⟨ga, 0, none⟩) K K, ms.take K), (.slice a L cap, ms)]) := H4.out.drewN q5
  clear H4
  generalize w4.drewN q5 = w5 at *
  go_wp2_with fail
  have hss : Hid (sizes (ms.set K s) + old.size < 2 ^ 62 ∧ (ms.set K s).set K old = ms) := by
    have h1 := (Edit.set s).size ms K
    have h2 := HSZ.out
    have h3 := HM.out
    refine ⟨?_, ?_⟩
    · show sizes ((Edit.set s).run ms K) + old.size < 2 ^ 62
      have e : (Edit.set s).more = s.size := rfl
      omega
    · rw [List.set_set]
      obtain ⟨_, e⟩ := List.getElem?_eq_some_iff.1 HX.out
      rw [← e]; simp
  refine Calls.mono (H5.out.set (by rw [List.length_set, HL.out]; omega) (by omega) (y := old) (i := K) hss.out.1 (by rw [List.length_set, HL.out]; exact hKL)) ?_
  rintro e w6 ⟨rfl, q6⟩
  rw [hss.out.2] at q6
  have H6 : Hid (One W.heap.size W w6 t ms 10044 [(.slice a2 L c2', ms), (.slice (some ⟨gb, 0, none⟩) N N, ms.drop K), (.slice (some ⟨ga, 0, none⟩) K K, ms.take K), (.slice a L cap, ms)]) := q6
  clear q6 H5 hget hss
  go_wp2_with fail
  refine Calls.mono (same_true (l := ms) (H6.out.lies (x := (.slice a2 L c2', ms)) (by simp)) (H6.out.lies (x := (.slice a L cap, ms)) (by simp)) (by rw [HL.out]; omega)) ?_
  rintro e w7 ⟨rfl, q7, rfl⟩
  have H7 : Hid (One W.heap.size W (w6.drewN q7) t ms 10044 [(.slice a2 L c2', ms), (.slice (some ⟨gb, 0, none⟩) N N, ms.drop K), (.slice (some ⟨ga, 0, none⟩) K K, ms.take K), (.slice a L cap, ms)]) := H6.out.drewN q7
  clear H6
  generalize w6.drewN q7 = w7 at *
  go_wp2_with fail
  refine Calls.mono (H7.out.lines (by rw [HL.out]; omega)) ?_
  rintro e w8 ⟨g8, rfl, q8⟩
  have H8 : Hid _ := q8
  clear q8 H7
  go_wp2_with fail
  refine Calls.mono (same_true (l := ms) (H8.out.lies (x := (.slice (some ⟨g8, 0, none⟩) ms.length ms.length, ms)) (by simp)) (H8.out.lies (x := (.slice a L cap, ms)) (by simp)) (by rw [HL.out]; omega)) ?_
  rintro e w9 ⟨rfl, q9, rfl⟩
  have H9 : Hid _ := H8.out.drewN q9
  clear H8
  generalize w8.drewN q9 = w9 at *
  go_wp2_with fail
  refine Calls.mono (H9.out.setNo (by rw [HL.out]; omega) (y := s) (L : Int) (by omega) (by rw [HL.out]; omega)) ?_
  rintro e w10 ⟨rfl, q10⟩
  have H10 : Hid (Below W.heap.size W w10) := q10.below
  clear q10 H9
  go_wp2_with fail
  go_ret
  exact ⟨rfl, H10.out⟩
theorem walk (W : World) (v : Value) (ms : List ByteArray) (hv : Lies nobody W v ms) (hb : ∀ y ∈ ms, y.size ≤ reachBytes) (i : Int) (hi : (Lit.int .i64 i).wf = true) (s : ByteArray) (hs : s.size ≤ reachBytes) : Calls Try.prog 5 #[v, .int .i64 i, .string s] W fun e w' => e = .returned (.bool true) ∧ Below W.heap.size W w' := by
  have h2 := reachBytes_lt
  by_cases h : ms.length ≤ 300 ∧ 0 < ms.length
  · have h3 := sizes_le hb
    refine walk_in W ms v i s (i64_range hi) hv h.1 h.2 ?_ (by omega)
    have : ms.length * reachBytes ≤ 300 * reachBytes := Nat.mul_le_mul_right _ h.1
    omega
  · obtain ⟨a, cap, rfl, c1, c2⟩ := hv.form
    exact walk_out W a _ cap i s (by omega)

set_option maxRecDepth 100000 in
theorem lifted (os : Os) (started : os.Started) (H : Type) (enc : TypeId × Value → H) :
    ReturnsInHanded {} Try.checked os 5 .any (Rows.treePartsSpec.pre6 enc Try.prog Try.f5 Rows.treePartsRow.domain false) (Rows.treePartsSpec.post enc Try.prog Try.f5 false true false false) := by
  refine returnsInHanded_of_change_sized (C := Try.checked) own started (by kernel_rfl) Try.func5
    (ChangeSpec.witness6 (enc := enc) (C := Try.checked) false ⟨#[], #[.slice none 0 0, .int .i64 0, .string ⟨#[]⟩], []⟩ 8 (by kernel_rfl) (by kernel_rfl) (by kernel_rfl) (by kernel_rfl)) ?_
  intro W base args ds gs before hval0 hW hcnd hsized0 _
  have hval : ∀ (j : Nat) t v, Try.f5.params[j]? = some t → args[j]? = some v → Value.okWide Try.prog W .any base t v := hval0
  have hW' := hW
  obtain ⟨p, q, hA0, hV, rfl, hfz, hnd⟩ := hW
  have hA : DataW.TrodAll enc Try.prog W 0 (fun _ => true) true Try.f5.params.toList args.toList ds p := hA0
  have hsized : (DataW.weightsEach Try.prog (Try.f5.params.toList ++ Rows.treePartsSpec.plain.varTypes Try.prog) (ds ++ gs)).all (· ≤ reachBytes) = true := hsized0
  rw [Try.params5] at hA hval hsized
  obtain ⟨v0, vs0, d0, ds0, p0, q0, hargs, rfl, rfl, h0, r0⟩ := trodAll_cons hA
  obtain ⟨v1, vs1, d1, ds1, p1, q1, rfl, rfl, rfl, h1, r1⟩ := trodAll_cons r0
  obtain ⟨v2, vs2, d2, ds2, p2, q2, rfl, rfl, rfl, h2, r2⟩ := trodAll_cons r1
  obtain ⟨rfl, rfl, rfl⟩ := trodAll_nil r2
  obtain rfl : args = #[v0, v1, v2] := by cases args; simp_all
  obtain ⟨rfl, rfl⟩ := trodVars_none hV
  have s0 := weights_all hsized (j := 0) rfl rfl
  have s1 := weights_all hsized (j := 1) rfl rfl
  have s2 := weights_all hsized (j := 2) rfl rfl
  have k0 := h0
  have lt0 : ∀ x ∈ p0, x.block < W.heap.size := by obtain ⟨m, hm⟩ := k0; exact DataW.trod_lt m _ _ _ hm
  obtain ⟨a0, w0, z0⟩ := strs_form (hval 0 22 v0 rfl rfl) h0
  obtain ⟨a1, rfl, rfl, rfl, w1⟩ := open_int under3 (hval 1 3 v1 rfl rfl) h1
  obtain ⟨a2, rfl, rfl, rfl, w2⟩ := open_string under9 (hval 2 9 v2 rfl rfl) h2
  clear hA0 hval0 hsized0
  refine (walk W v0 a0 w0 (z0 s0) a1 w1 a2 (str_sized s2)).mono fun e W' ⟨he, bel⟩ => ?_
  subst he
  exact ⟨_, rfl, _, _, _, [], _, [], hW', trodAll_mk1 (shut_bool Try.underlying4 _), (trodAll_cons_mk (Below.trod laidOut (by kernel_rfl) (of_decide_eq_true (by kernel_rfl)) k0 bel lt0) (trodAll_cons_mk (shut_int under3 w1) (trodAll_cons_mk (shut_string under9 w2) trodAll_mk0))), rfl, bel.frame _, fun h => by cases h⟩

theorem over : Rows.treePartsRow.holds Try.pinned (OpenSpec.ofChange Rows.treePartsSpec) :=
  OpenClaim.holds_of_wide 5 Try.f5 rfl rfl rfl rfl rfl rfl rfl ⟨rfl, rfl, rfl, rfl, rfl⟩ rfl rfl rfl rfl rfl (by kernel_rfl) Try.func5 (by kernel_rfl)
    (of_decide_eq_true (by kernel_rfl)) (by unfold Func.isWrapper; first | (rw [if_pos (by decide +kernel)]; kernel_rfl) | (rw [if_neg (by decide +kernel)]; exact ⟨rfl, rfl⟩))
    (fun os started H enc _ => lifted os started H enc)

end Go.Proofs.Ytfnhbjokokjhfaa.treeParts
namespace Go.Proofs.Ytfnhbjokokjhfaa
theorem treeParts_holds : Rows.TreePartsSaid := treeParts.over
#print axioms treeParts_holds
end Go.Proofs.Ytfnhbjokokjhfaa
