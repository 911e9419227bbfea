/- Texts that the proof of the law stands on: HO, HP, HQ, HR, HS, VX, ZK, ZN, ZO. -/
import Derived.Test.YtbkhhgaihhbhjaaPartD
import Derived.Test.YtbkhhgaihhbhjaaPartF
import Derived.Test.YtbkhhgaihhbhjaaPartE
import Derived.Laws.StructEq
import Derived.Laws.Tables
/- The document's kids, gone. -/
namespace Go.Proofs.Ytbkhhgaihhbhjaa
open Go.ChangeShapes Go.WideShapes Go.ChangeAt Go.RowKit Go.Maps Go.MapKept
set_option linter.unusedVariables false
set_option linter.unusedSimpArgs false
set_option maxRecDepth 100000
theorem kids_snoc (A : List St) (s : St) (x : Int) : kidsL (A ++ [s]) x = if s.fr = x then kidsL A x ++ [s] else kidsL A x := by
  unfold kidsL
  rw [List.filter_append]
  by_cases q : s.fr = x
  · rw [if_pos q]; simp [q]
  · rw [if_neg q]; simp [q]
theorem newest_snoc (A : List St) (s : St) (x : Int) : newest (A ++ [s]) x = if s.fr = x then s.seq else newest A x := by
  unfold newest
  rw [kids_snoc]
  by_cases q : s.fr = x
  · rw [if_pos q, if_pos q]; simp
  · rw [if_neg q, if_neg q]
theorem flatR_app : ∀ (A B : List St) (va vb : List Value), va.length = A.length → flatR (A ++ B) (va ++ vb) = flatR A va ++ flatR B vb
  | [], B, [], vb, _ => rfl
  | [], B, _ :: _, vb, h => by simp at h
  | s :: A, B, [], vb, h => by simp at h
  | s :: A, B, v :: va, vb, h => by
    simp only [List.length_cons, Nat.add_right_cancel_iff] at h
    have := flatR_app A B va vb h
    simp only [List.cons_append, flatR, this]
theorem drop_at_idx {L : List St} (hs : (L.map St.seq).Pairwise (· < ·)) {i : Nat} {s : St} (hi : L[i]? = some s) : dropL L s.seq = L.take i ++ L.drop (i + 1) := by
  induction L generalizing i with
  | nil => cases hi
  | cons a L ih =>
    rw [List.map_cons, List.pairwise_cons] at hs
    unfold dropL at ih ⊢
    rw [List.filter_cons]
    cases i with
    | zero =>
      simp only [List.getElem?_cons_zero, Option.some.injEq] at hi
      subst hi
      rw [if_neg (by simp)]
      show List.filter _ L = L
      exact List.filter_eq_self.2 fun b hb => by
        have := hs.1 b.seq (List.mem_map.2 ⟨b, hb, rfl⟩)
        simp; omega
    | succ i =>
      rw [List.getElem?_cons_succ] at hi
      have := hs.1 s.seq (List.mem_map.2 ⟨s, List.mem_of_getElem? hi, rfl⟩)
      rw [if_pos (by simp; omega), ih hs.2 hi]
      rfl
section
variable {B C r : Nat} {m : Tr} {w w1 : World}
set_option maxHeartbeats 8000000 in
theorem rkids_any (h : Rw B C r m w) (hl : m.L.length ≤ 250) (x : Int) :
    Calls Try.prog 71 #[.pointer (some ⟨r, 0, none⟩), .int .i64 x] w fun e w' => e = .returned (.tuple #[.int .i64 (kidsL m.L x).length, .int .i64 (newest m.L x)]) ∧ w' = w := by
  obtain ⟨v, vs, h⟩ := h
  have c1 := h.box.at (j := 1) rfl
  obtain ⟨N, hN⟩ : ∃ N, m.L.length = N := ⟨_, rfl⟩
  obtain ⟨a, c, hv, hc1, hc2⟩ := owns_form h.row
  unfold maxLen at hc2
  have HC : Hid (∀ i, i < N → ∃ g s, a = some ⟨g, 0, none⟩ ∧ w.cell? ⟨g, i * 4, none⟩ = some (.int .i64 s.seq) ∧ w.cell? ⟨g, i * 4 + 1, none⟩ = some (.int .i64 s.fr) ∧ m.L.take (i + 1) = m.L.take i ++ [s]) := fun i hi => by
    obtain ⟨s, hs⟩ : ∃ s, m.L[i]? = some s := ⟨_, List.getElem?_eq_getElem (by omega)⟩
    obtain ⟨g, c', u, e, _, _, _, _, q0, q1, _⟩ := h.cell hs
    rw [hv] at e; cases e
    exact ⟨g, s, rfl, q0, q1, take_snoc _ hs⟩
  rw [hv, hN] at c1
  have HN : Hid (m.L.take N = m.L) := by rw [← hN]; exact List.take_length
  rw [hN] at hl hc1
  clear h hN hv
  go_enter Try.func71, Try.ntmps71
  go_wp2_with fail
  go_loopw [6, 7, 8] (fun v6 v7 v8 wr => ∃ (i k : Nat) (f : Int), i ≤ N ∧ (k : Int) ≤ i ∧ v6 = .int .i64 k ∧ v7 = .int .i64 f ∧ v8 = .int .i64 i ∧ wr = w ∧ Hid ((kidsL (m.L.take i) x).length = k ∧ newest (m.L.take i) x = f)) (fun _ _ v8 _ => N - (intOf v8).toNat)
  case atStart => exact ⟨0, 0, -1, Nat.zero_le _, by omega, rfl, rfl, rfl, rfl, rfl, rfl⟩
  case round =>
    obtain ⟨i, k, f, hi, hki, rfl, rfl, rfl, rfl, HI⟩ := hrel
    rcases Nat.lt_or_ge i N with p | p
    · have d1 : decide ((i : Int) < (N : Int)) = true := decide_eq_true (by omega)
      have d2 : decide (i < N) = true := decide_eq_true p
      obtain ⟨g, s, rfl, q0, q1, q2⟩ := HC.out i p
      have HS : Hid ((kidsL (m.L.take (i + 1)) x) = (if s.fr = x then kidsL (m.L.take i) x ++ [s] else kidsL (m.L.take i) x) ∧ newest (m.L.take (i + 1)) x = if s.fr = x then s.seq else newest (m.L.take i) x) := ⟨by rw [q2, kids_snoc], by rw [q2, newest_snoc]⟩
      clear q2
      by_cases e : s.fr = x
      · have d3 : (s.fr == x) = true := by simpa using e
        have HX : Hid ((kidsL (m.L.take (i + 1)) x).length = k + 1 ∧ newest (m.L.take (i + 1)) x = s.seq) := by
          rw [HS.out.1, HS.out.2, if_pos e, if_pos e, List.length_append, HI.out.1]; exact ⟨rfl, rfl⟩
        clear HS HI e
        go_wp2_with fail
        go_roundw
        case rel => exact ⟨i + 1, k + 1, s.seq, by omega, by omega, by go_num, rfl, by go_num, trivial, HX.out⟩
        case measure => simp only [intOf]; omega
      · have d3 : (s.fr == x) = false := by simpa using e
        have HX : Hid ((kidsL (m.L.take (i + 1)) x).length = k ∧ newest (m.L.take (i + 1)) x = f) := by
          rw [HS.out.1, HS.out.2, if_neg e, if_neg e]; exact HI.out
        clear HS HI e
        go_wp2_with fail
        go_roundw
        case rel => exact ⟨i + 1, k, f, by omega, by omega, rfl, rfl, by go_num, trivial, HX.out⟩
        case measure => simp only [intOf]; omega
    · have d1 : decide ((i : Int) < (N : Int)) = false := decide_eq_false (by omega)
      have d2 : decide (i < N) = false := decide_eq_false (by omega)
      obtain rfl : i = N := by omega
      have HX : Hid ((kidsL m.L x).length = k ∧ newest m.L x = f) := by rw [← HN.out]; exact HI.out
      clear HI HC
      go_wp2_with fail
      go_ret2
      exact ⟨by rw [HX.out.1, HX.out.2]; rfl, rfl⟩
end
end Go.Proofs.Ytbkhhgaihhbhjaa
/- The document's gone. -/
namespace Go.Proofs.Ytbkhhgaihhbhjaa
open Go.ChangeShapes Go.WideShapes Go.ChangeAt Go.RowKit Go.Maps Go.MapKept
set_option linter.unusedVariables false
set_option linter.unusedSimpArgs false
set_option maxRecDepth 100000
/-- States are laid behind others. -/
theorem wpl_rs {w : World} {ops : Array Oper} {rest : List Oper} {o : Oper} {ac : Act} {Q : Exit → Act → World → Prop} (hgd : o.guard = none) (s x : Operand) (ho : o.op = .call { callee := .builtin .append, args := #[s, x], argTypes := #[46, 46] })
    {D n M : Nat} {v : Value} {xs : List Value} (hs : ac.eval s = v) (hr : w.ownsRow D 81 4 v n xs) {ad : Addr} {sa : Option Addr} {k c : Nat} {news : List Value} (hx : ac.eval x = .slice sa k c) (hsa : sa = some ad) (hl : news.length = k * 4) (hc : ∀ j u, news[j]? = some u → w.cell? (ad.add j) = some u) (h1 : ∀ u ∈ news, u.oneCell' = true) (hM : n + k = M) (hlim : M ≤ 1000) (hD : D ≤ w.heap.size)
    (K : ∀ a' c' w', M ≤ c' → c' ≤ maxLen → w'.ownsRow D 81 4 (.slice a' M c') M (xs ++ news) → w.grownBy w' v.ownBlock → Below D w w' → wpList Try.prog ops Q rest (ac.put o.dst (.slice a' M c')) w') : wpList Try.prog ops Q (o :: rest) ac w := by
  subst hM
  subst hsa
  obtain ⟨i9, hi9, z0, z1, z2⟩ := info_parts infoRS
  refine wpList_append_own w hgd s x 46 ho D 81 i9 _ 4 48 Try.underlying46 hi9 z0 z1 z2 rfl (by decide) v n xs hs hr ad k c news hx hl hc h1 (by unfold maxLen; omega) (by omega) hD ?_
  intro v' w' q1 q2 _
  obtain ⟨a', c', rfl, q3, q4⟩ := owns_form q1
  exact K a' c' w' q3 q4 q1 q2 (below_grown hr hD q2)
theorem flatR_one : ∀ (L : List St) (vs : List Value), (∀ u ∈ vs, u.oneCell' = true) → ∀ u ∈ flatR L vs, u.oneCell' = true
  | [], _, _, u, h => by cases h
  | _ :: _, [], _, u, h => by cases h
  | s :: L, v :: vs, hv, u, h => by
    simp only [flatR, List.mem_append, List.mem_cons, List.not_mem_nil, or_false] at h
    rcases h with rfl | rfl | rfl | rfl | h
    · rfl
    · rfl
    · exact hv _ (by simp)
    · rfl
    · exact flatR_one L vs (fun u hu => hv u (by simp [hu])) u h
section
variable {B C r : Nat} {m : Tr} {w w1 : World} {v : Value} {vs : List Value} {s : St}
/-- The rows of those ahead of one, and behind it. -/
theorem Rb.parts (h : Rb B C r v vs m w) (hs : (m.L.map St.seq).Pairwise (· < ·)) {i : Nat} (hi : m.L[i]? = some s) :
    flatR (dropL m.L s.seq) (vs.take i ++ vs.drop (i + 1)) = (flatR m.L vs).take (i * 4) ++ (flatR m.L vs).drop ((i + 1) * 4) ∧ Bys C (dropL m.L s.seq) (vs.take i ++ vs.drop (i + 1)) w ∧ (dropL m.L s.seq).length + 1 = m.L.length := by
  have hil := (List.getElem?_eq_some_iff.1 hi).1
  have hvl := h.bys.1
  have e0 := drop_at_idx hs hi
  have ft : (flatR m.L vs).take (i * 4) = flatR (m.L.take i) (vs.take i) := by
    have e1 : flatR m.L vs = flatR (m.L.take i) (vs.take i) ++ flatR (m.L.drop i) (vs.drop i) := by
      rw [← flatR_app _ _ _ _ (by rw [List.length_take, List.length_take]; omega), List.take_append_drop, List.take_append_drop]
    rw [e1]
    refine List.take_left' ?_
    rw [flatR_len _ _ (by rw [List.length_take, List.length_take]; omega), List.length_take]
    rw [Nat.min_eq_left (by omega)]
  have fd : (flatR m.L vs).drop ((i + 1) * 4) = flatR (m.L.drop (i + 1)) (vs.drop (i + 1)) := by
    have e1 : flatR m.L vs = flatR (m.L.take (i + 1)) (vs.take (i + 1)) ++ flatR (m.L.drop (i + 1)) (vs.drop (i + 1)) := by
      rw [← flatR_app _ _ _ _ (by rw [List.length_take, List.length_take]; omega), List.take_append_drop, List.take_append_drop]
    rw [e1]
    refine List.drop_left' ?_
    rw [flatR_len _ _ (by rw [List.length_take, List.length_take]; omega), List.length_take]
    rw [Nat.min_eq_left (by omega)]
  refine ⟨?_, ⟨?_, fun j s' u h1 h2 => ?_⟩, drop_len hs (by rw [mem_look hs (List.mem_of_getElem? hi)]; simp)⟩
  · rw [e0, ft, fd, flatR_app _ _ _ _ (by rw [List.length_take, List.length_take]; omega)]
  · rw [e0, List.length_append, List.length_append, List.length_take, List.length_take, List.length_drop, List.length_drop]; omega
  · rw [e0] at h1
    by_cases q : j < i
    · rw [List.getElem?_append_left (by rw [List.length_take]; omega), List.getElem?_take, if_pos q] at h1 h2
      exact h.bys.2 j s' u h1 h2
    · rw [List.getElem?_append_right (by rw [List.length_take]; omega), List.length_take, List.getElem?_drop] at h1 h2
      rw [Nat.min_eq_left (by omega)] at h1 h2
      exact h.bys.2 _ s' u h1 h2
/-- Another list of states is laid. -/
theorem Rb.lay (h : Rb B C r v vs m w) {v' : Value} {vs' : List Value} {L' : List St} {D : Nat} (hD : B ≤ D) (hr : w.ownsRow D 81 4 v' L'.length (flatR L' vs')) (hb : Bys C L' vs' w) : Rb B C r v' vs' { m with L := L' } (w.setCell ⟨r, 1, none⟩ v') ∧ Ff TQ B w (w.setCell ⟨r, 1, none⟩ v') := by
  have f := fr_set r 1 v' w
  have ff : Ff TQ B w (w.setCell ⟨r, 1, none⟩ v') := Ff.on f h.lr h.box (.inl rfl)
  exact ⟨⟨h.lr, h.box.set 1 _, row_fr (row_lift hr fun j hj => Nat.le_trans hD (hr.lt j hj).1) f fun j hj e => row_ne hr h.box (by decide) (by rw [hj, e]), hb.ff ff (tq_of (by decide) (by decide)) (tq_of (by decide) (by decide))⟩, ff⟩
set_option maxHeartbeats 16000000 in
theorem rgone_any (h : Rw B C r m w) (hs : (m.L.map St.seq).Pairwise (· < ·)) (hl : m.L.length ≤ 250) {i : Nat} (hi : m.L[i]? = some s) (hB : B ≤ w.heap.size) (hfr : (s.fr = -1 ∧ look m.L (-1) = none) ∨ (0 ≤ s.fr ∧ s.fr ≠ s.seq ∧ look m.L s.fr ≠ none)) :
    Calls Try.prog 72 #[.pointer (some ⟨r, 0, none⟩), .int .i64 i] w fun e w' => e = .returned (.tuple #[]) ∧ Rw B C r { m with L := cutT m.L s.seq s.fr } w' ∧ Ff TQ B w w' := by
  obtain ⟨v, vs, h⟩ := h
  have hil := (List.getElem?_eq_some_iff.1 hi).1
  obtain ⟨g, c, u, rfl, hBg, hc1, hc2, hvi, q0, q1, q2, q3, qf⟩ := h.cell hi
  have c1 := h.box.at (j := 1) rfl
  have f1 := h.box.fz 1
  obtain ⟨hfl, hby, hln⟩ := h.parts hs hi
  obtain ⟨N, hN⟩ : ∃ N, m.L.length = N := ⟨_, rfl⟩
  have HC : Hid (∀ j u, (flatR m.L vs)[j]? = some u → w.cell? ⟨g, j, none⟩ = some u) := fun j u hj => by
    rcases h.row.2 with ⟨e0, _⟩ | ⟨g', c', cur, e0, hb, hg, p1, p2, p3, p4⟩
    · cases e0
    cases e0
    have hjl := (List.getElem?_eq_some_iff.1 hj).1
    rw [flatR_len _ _ h.bys.1] at hjl
    rw [cell_at hg, ← Array.getElem?_toList]
    rw [← p4, List.getElem?_take, if_pos (by omega)] at hj
    exact hj
  have HO1 : Hid (∀ u ∈ flatR m.L vs, u.oneCell' = true) := flatR_one _ _ fun u hu => by
    obtain ⟨j, hj⟩ := List.getElem?_of_mem hu
    have hjl := (List.getElem?_eq_some_iff.1 hj).1
    have hjl2 : j < m.L.length := by have := h.bys.1; omega
    obtain ⟨a, c, rfl, _⟩ := (h.bys.2 j m.L[j] u (List.getElem?_eq_getElem (show j < m.L.length by have := h.bys.1; omega)) hj).1.form
    rfl
  obtain ⟨ua, un, uc, rfl⟩ : ∃ a n c, u = .slice a n c := by
    obtain ⟨a, c, q, _⟩ := (h.bys.2 i s u hi hvi).1.form
    exact ⟨a, _, c, q⟩
  have HH : Hid (Rb B C r (.slice (some ⟨g, 0, none⟩) m.L.length c) vs m w ∧ (m.L.map St.seq).Pairwise (· < ·) ∧ m.L[i]? = some s ∧ B ≤ w.heap.size ∧ m.L.length = N ∧ (flatR m.L vs).length = N * 4) := ⟨h, hs, hi, hB, hN, by rw [flatR_len _ _ h.bys.1, hN]⟩
  have HP : Hid (flatR (dropL m.L s.seq) (vs.take i ++ vs.drop (i + 1)) = (flatR m.L vs).take (i * 4) ++ (flatR m.L vs).drop ((i + 1) * 4) ∧ Bys C (dropL m.L s.seq) (vs.take i ++ vs.drop (i + 1)) w ∧ (dropL m.L s.seq).length + 1 = m.L.length) := ⟨hfl, hby, hln⟩
  rw [hN] at c1 hc1 hl hil
  clear h hi hfl hby hln hB hs hvi
  go_enter Try.func72, Try.ntmps72
  go_upto_region 2 with fail
  obtain ⟨W1, hW1⟩ : ∃ W1, w.alloc (.cells #[.int .i64 s.seq, .int .i64 s.fr, .slice ua un uc, .int .i64 s.on] 81) = W1 := ⟨_, rfl⟩
  rw [hW1]
  have k1 : Kp w W1 := by rw [← hW1]; exact kp_alloc _ _
  have b1 : Lc 81 w.heap.size [.int .i64 s.seq, .int .i64 s.fr, .slice ua un uc, .int .i64 s.on] W1 := by rw [← hW1]; exact Lc.new w _ _
  have HW : Hid (Kp w W1 ∧ Lc 81 w.heap.size [.int .i64 s.seq, .int .i64 s.fr, .slice ua un uc, .int .i64 s.on] W1) := ⟨k1, b1⟩
  have HT : Hid (((flatR m.L vs).take (i * 4)).length = i * 4 ∧ (∀ j u, ((flatR m.L vs).take (i * 4))[j]? = some u → W1.cell? ((⟨g, 0, none⟩ : Addr).add j) = some u) ∧ (∀ u ∈ (flatR m.L vs).take (i * 4), u.oneCell' = true) ∧ W1.heap.size ≤ W1.heap.size ∧ W1.ownsRow W1.heap.size 81 4 (.slice none 0 0) 0 []) := by
    refine ⟨by rw [List.length_take, HH.out.2.2.2.2.2]; omega, fun j u hj => ?_, fun u hu => HO1.out u (List.mem_of_mem_take hu), Nat.le_refl _, World.ownsRow_nil _ _ _ _⟩
    rw [List.getElem?_take] at hj
    by_cases q : j < i * 4
    · rw [if_pos q] at hj; rw [addr_add]; exact kp_cell k1 (HC.out j u hj)
    · rw [if_neg q] at hj; cases hj
  have c1' := kp_cell k1 c1
  have hil2 : i ≤ c := by omega
  have hiI : (i : Int) ≤ (c : Int) := by omega
  clear hW1 k1 b1 q0 q1 q2 q3 qf f1
  have hMM : i + (N - (i + 1)) = N - 1 := by omega
  go_upto_region 3 with (at_builtin; refine wpl_rs rfl (.tmp 16) (.tmp 22) rfl (D := W1.heap.size) (n := 0) (v := .slice none 0 0) (xs := []) (M := i) rfl HT.out.2.2.2.2 (ad := ⟨g, 0, none⟩) (k := i) (c := c) rfl rfl HT.out.1 HT.out.2.1 HT.out.2.2.1 (by omega) (by omega) HT.out.2.2.2.1 ?_; intro a2 c2 w2 hc2a hc2b hr2 hg2 hb2)
  have k2 : Kp w w2 := kp_trans HW.out.1 hb2
  have HR2 : Hid (w2.ownsRow W1.heap.size 81 4 (.slice a2 i c2) i ([] ++ (flatR m.L vs).take (i * 4)) ∧ Kp W1 w2) := ⟨hr2, hb2⟩
  have HT2 : Hid (((flatR m.L vs).drop ((i + 1) * 4)).length = (N - (i + 1)) * 4 ∧ (∀ j u, ((flatR m.L vs).drop ((i + 1) * 4))[j]? = some u → w2.cell? ((if c = i + 1 then ⟨g, 0, none⟩ else ⟨g, (i + 1) * 4, none⟩ : Addr).add j) = some u) ∧ (∀ u ∈ (flatR m.L vs).drop ((i + 1) * 4), u.oneCell' = true) ∧ W1.heap.size ≤ w2.heap.size) := by
    refine ⟨by rw [List.length_drop, HH.out.2.2.2.2.2]; omega, fun j u hj => ?_, fun u hu => HO1.out u (List.mem_of_mem_drop hu), hb2.size⟩
    rw [List.getElem?_drop] at hj
    have hjl := (List.getElem?_eq_some_iff.1 hj).1
    rw [HH.out.2.2.2.2.2] at hjl
    rw [if_neg (by omega), add2]; exact kp_cell k2 (HC.out _ u hj)
  have c2' := kp_cell k2 c1
  obtain ⟨sa, hsa⟩ : ∃ sa, (if c = i + 1 then some (⟨g, 0, none⟩ : Addr) else some ⟨g, (i + 1) * 4, none⟩) = sa := ⟨_, rfl⟩
  have HSA : Hid (sa = some (if c = i + 1 then ⟨g, 0, none⟩ else ⟨g, (i + 1) * 4, none⟩)) := by rw [← hsa]; split <;> rfl
  clear hr2 hg2 hb2 k2 c1' HT hc2a hc2b
  go_upto_region 4 with (at_builtin; refine wpl_rs rfl (.tmp 24) (.tmp 31) rfl (D := W1.heap.size) (n := i) (v := .slice a2 i c2) (xs := [] ++ (flatR m.L vs).take (i * 4)) (M := N - 1) rfl HR2.out.1 (ad := if c = i + 1 then ⟨g, 0, none⟩ else ⟨g, (i + 1) * 4, none⟩) (k := N - (i + 1)) (c := c - (i + 1)) rfl HSA.out HT2.out.1 HT2.out.2.1 HT2.out.2.2.1 hMM (by omega) HT2.out.2.2.2 ?_; intro a3 c3 w3 hc3a hc3b hr3 hg3 hb3)
  have k13 : Kp W1 w3 := HR2.out.2.trans hb3
  have k3 : Kp w w3 := kp_trans HW.out.1 k13
  have hlD : (dropL m.L s.seq).length = N - 1 := by have := HP.out.2.2; rw [HH.out.2.2.2.2.1] at this; omega
  have rb3 := HH.out.1.kp k3
  obtain ⟨r4, f4⟩ := rb3.lay (v' := .slice a3 (N - 1) c3) (vs' := vs.take i ++ vs.drop (i + 1)) (L' := dropL m.L s.seq) (D := W1.heap.size) (Nat.le_trans HH.out.2.2.2.1 HW.out.1.size) (by rw [hlD, HP.out.1]; exact hr3) (HP.out.2.1.kp k3)
  have hrw : r ≠ w.heap.size := by have := HH.out.1.box.lt; omega
  have b4 : Lc 81 w.heap.size [.int .i64 s.seq, .int .i64 s.fr, .slice ua un uc, .int .i64 s.on] (w3.setCell ⟨r, 1, none⟩ (.slice a3 (N - 1) c3)) := (HW.out.2.kp k13).other hrw
  have c3' := rb3.box.at (j := 1) rfl
  have f3' := rb3.box.fz 1
  rw [HH.out.2.2.2.2.1] at c3'
  obtain ⟨W4, hW4⟩ : ∃ W4, w3.setCell ⟨r, 1, none⟩ (.slice a3 (N - 1) c3) = W4 := ⟨_, rfl⟩
  rw [hW4] at r4 f4 b4
  have HW4 : Hid (_ = W4) := hW4
  have H4 : Hid (Rb B C r (.slice a3 (N - 1) c3) (vs.take i ++ vs.drop (i + 1)) { m with L := dropL m.L s.seq } W4 ∧ Ff TQ B w W4 ∧ (dropL m.L s.seq).length = N - 1 ∧ ((dropL m.L s.seq).map St.seq).Pairwise (· < ·)) := ⟨r4, (Ff.kp k3).trans f4, hlD, drop_sorted HH.out.2.1 _⟩
  have x0 := b4.at (j := 0) rfl
  have x1 := b4.at (j := 1) rfl
  have x4 := r4.box.at (j := 1) rfl
  clear hr3 hg3 hb3 k13 k3 r4 f4 b4 rb3 hlD HT2 HR2 c2' hc3a hc3b hW4
  go_upto_region 5 with fail
  rw [HW4.out]
  clear c3' f3' HW4
  rcases hfr with ⟨e1, e2⟩ | ⟨e1, e2, e3⟩
  · have d1 : decide (s.fr ≥ 0) = false := decide_eq_false (by omega)
    have d2 : decide (0 ≤ s.fr) = false := decide_eq_false (by omega)
    have hn : look (dropL m.L s.seq) s.fr = none := by rw [look_drop, e1, e2]; split <;> rfl
    have HF : Hid _ := find_none (m := { m with L := dropL m.L s.seq }) ⟨_, _, H4.out.1⟩ (by show (dropL m.L s.seq).length ≤ 250; rw [H4.out.2.2.1]; omega) hn
    have HX : Hid (∀ k, Rw B C r { m with L := cutT m.L s.seq s.fr } (W4.drewN k) ∧ Ff TQ B w (W4.drewN k)) := fun k => by
      have e9 : cutT m.L s.seq s.fr = dropL m.L s.seq := by unfold cutT; rw [hn]
      rw [e9]
      exact ⟨⟨_, _, H4.out.1.kp (kp_drewN _ _)⟩, H4.out.2.1.trans (Ff.kp (kp_drewN _ _))⟩
    clear hn H4 e1 e2 HP HH
    go_wp2_with fail
    refine Calls.mono HF.out ?_
    rintro e w5 ⟨rfl, rfl⟩
    clear HF
    go_wp2_with fail
    go_quiet (fail)
    go_wp2_with fail
    go_end0
    exact ⟨rfl, HX.out _⟩
  · have d1 : decide (s.fr ≥ 0) = true := decide_eq_true (by omega)
    have d2 : decide (0 ≤ s.fr) = true := decide_eq_true (by omega)
    have hn : look (dropL m.L s.seq) s.fr ≠ none := by rw [look_drop, if_neg e2]; exact e3
    obtain ⟨p, hp⟩ := Option.ne_none_iff_exists'.1 hn
    obtain ⟨k, hk⟩ := idx_of hn
    have hkp := at_of H4.out.2.2.2 hk hp
    have hkl := (List.getElem?_eq_some_iff.1 hkp).1
    have HF : Hid (Calls Try.prog 60 #[.pointer (some ⟨r, 0, none⟩), .int .i64 s.fr] W4 fun e w' => e = .returned (.int .i64 k) ∧ w' = W4) := find_some (m := { m with L := dropL m.L s.seq }) ⟨_, _, H4.out.1⟩ (by show (dropL m.L s.seq).length ≤ 250; rw [H4.out.2.2.1]; omega) (H4.out.2.2.2.imp fun h e => by omega) hk
    obtain ⟨g4, c4, u4, e4, hBg4, hcc1, hcc2, _, y0, _, _, y3, fz4⟩ := H4.out.1.cell hkp
    have e5 : a3 = some ⟨g4, 0, none⟩ := by simp only [Value.slice.injEq] at e4; exact e4.1
    subst e5
    rw [H4.out.2.2.1] at hkl
    have hkI : (k : Int) < ((N - 1 : Nat) : Int) := by omega
    have hk0 : decide ((k : Int) ≥ 0) = true := decide_eq_true (by omega)
    have hk00 : decide ((0 : Int) ≤ (k : Int)) = true := decide_eq_true (by omega)
    have fz := fz4 (k * 4 + 3)
    have HK : Hid ((((dropL m.L s.seq)).map St.seq)[k]? = some s.fr ∧ look (dropL m.L s.seq) s.fr = some p) := ⟨hk, hp⟩
    have HKD : Hid (∀ z, Kp W4 z → Calls Try.prog 71 #[.pointer (some ⟨r, 0, none⟩), .int .i64 s.fr] z fun e w' => e = .returned (.tuple #[.int .i64 (kidsL (dropL m.L s.seq) s.fr).length, .int .i64 (newest (dropL m.L s.seq) s.fr)]) ∧ w' = z) := fun z kz => rkids_any (m := { m with L := dropL m.L s.seq }) ⟨_, _, H4.out.1.kp kz⟩ (by show (dropL m.L s.seq).length ≤ 250; rw [H4.out.2.2.1]; omega) s.fr
    clear hn hp hk hkp e4 hcc1 hcc2 e1 e3 fz4 HP HH
    by_cases e : p.on = s.seq
    · have d3 : (p.on == s.seq) = true := by simpa using e
      have HX : Hid (∀ z, Kp W4 z → Rw B C r { m with L := cutT m.L s.seq s.fr } (z.setCell ⟨g4, k * 4 + 3, none⟩ (.int .i64 (newest (dropL m.L s.seq) s.fr))) ∧ Ff TQ B w (z.setCell ⟨g4, k * 4 + 3, none⟩ (.int .i64 (newest (dropL m.L s.seq) s.fr)))) := fun z kz => by
        have e9 : cutT m.L s.seq s.fr = setOn (dropL m.L s.seq) s.fr (newest (dropL m.L s.seq) s.fr) := by unfold cutT; rw [HK.out.2]; exact if_pos e
        rw [e9]
        obtain ⟨r1, r2⟩ := (H4.out.1.kp kz).onN (n := N - 1) (H4.out.2.2.1).symm (H4.out.2.2.2.imp fun h e => by omega) HK.out.1 (newest (dropL m.L s.seq) s.fr)
        exact ⟨⟨_, _, r1⟩, (H4.out.2.1.trans (Ff.kp kz)).trans r2⟩
      clear e
      generalize N - 1 = M1 at *
      go_wp2_with fail
      refine Calls.mono HF.out ?_
      rintro e w5 ⟨rfl, rfl⟩
      clear HF
      go_wp2_with fail
      go_quiet (fail)
      go_wp2_with fail
      refine Calls.mono (HKD.out _ (kp_drewN _ _)) ?_
      rintro e w5 ⟨rfl, rfl⟩
      clear HKD
      go_wp2_with fail
      go_end0
      exact ⟨rfl, HX.out _ (kp_drewN _ _)⟩
    · have d3 : (p.on == s.seq) = false := by simpa using e
      have HX : Hid (∀ z, Kp W4 z → Rw B C r { m with L := cutT m.L s.seq s.fr } z ∧ Ff TQ B w z) := fun z kz => by
        have e9 : cutT m.L s.seq s.fr = dropL m.L s.seq := by unfold cutT; rw [HK.out.2]; exact if_neg e
        rw [e9]
        exact ⟨⟨_, _, H4.out.1.kp kz⟩, H4.out.2.1.trans (Ff.kp kz)⟩
      clear e HKD
      generalize N - 1 = M1 at *
      go_wp2_with fail
      refine Calls.mono HF.out ?_
      rintro e w5 ⟨rfl, rfl⟩
      clear HF
      go_wp2_with fail
      go_quiet (fail)
      go_wp2_with fail
      go_end0
      exact ⟨rfl, HX.out _ (kp_drewN _ _)⟩
end
end Go.Proofs.Ytbkhhgaihhbhjaa
/- The document's evict. -/
namespace Go.Proofs.Ytbkhhgaihhbhjaa
open Go.ChangeShapes Go.WideShapes Go.ChangeAt Go.RowKit Go.Maps Go.MapKept
set_option linter.unusedVariables false
set_option linter.unusedSimpArgs false
set_option maxRecDepth 100000
theorem flatR_put : ∀ {L : List St} {vs : List Value} {i : Nat} {s : St} (fr : Int) (by_ : List Dl) (v : Value), vs.length = L.length → L[i]? = some s → flatR (L.set i { s with fr := fr, by_ := by_ }) (vs.set i v) = ((flatR L vs).set (i * 4 + 1) (.int .i64 fr)).set (i * 4 + 2) v
  | [], _, i, s, _, _, _, _, h => by simp at h
  | _ :: _, [], i, s, _, _, _, h, _ => by simp at h
  | s :: r, u :: vs, 0, s', fr, by_, v, hl, h => by
    simp only [List.getElem?_cons_zero, Option.some.injEq] at h
    subst h
    rfl
  | s :: r, u :: vs, i + 1, s', fr, by_, v, hl, h => by
    simp only [List.getElem?_cons_succ] at h
    have q := flatR_put (L := r) (vs := vs) (i := i) fr by_ v (by simpa using hl) h
    rw [show (i + 1) * 4 + 1 = (i * 4 + 1) + 1 + 1 + 1 + 1 by omega, show (i + 1) * 4 + 2 = (i * 4 + 2) + 1 + 1 + 1 + 1 by omega]
    simp only [List.set_cons_succ, flatR, q]
/-- The first i of them were looked at. -/
def undone (M : List St) (x : Int) (i : Nat) : List St := (M.take i).map (unroot x) ++ M.drop i
section
variable {B C r : Nat} {m : Tr} {w w1 : World} {v : Value} {vs : List Value} {s : St} {M : List St} {x : Int} {i : Nat}
theorem undone_zero (M : List St) (x : Int) : undone M x 0 = M := by simp [undone]
theorem undone_all (M : List St) (x : Int) : undone M x M.length = M.map (unroot x) := by simp [undone]
theorem undone_len (M : List St) (x : Int) (i : Nat) : (undone M x i).length = M.length := by
  simp only [undone, List.length_append, List.length_map, List.length_take, List.length_drop]; omega
theorem undone_at (hi : M[i]? = some s) : (undone M x i)[i]? = some s := by
  have hl := (List.getElem?_eq_some_iff.1 hi).1
  unfold undone
  rw [List.getElem?_append_right (by rw [List.length_map, List.length_take]; omega), List.length_map, List.length_take, List.getElem?_drop, Nat.min_eq_left (by omega)]
  rw [← hi]; congr 1; omega
theorem undone_step (hi : M[i]? = some s) : undone M x (i + 1) = (undone M x i).set i (unroot x s) := by
  have hl := (List.getElem?_eq_some_iff.1 hi).1
  unfold undone
  rw [take_snoc M hi, List.map_append, List.append_assoc]
  have e0 : M.drop i = s :: M.drop (i + 1) := by
    obtain ⟨h1, h2⟩ := List.getElem?_eq_some_iff.1 hi
    rw [← h2]; exact List.drop_eq_getElem_cons h1
  rw [e0, List.set_append_right _ _ (by rw [List.length_map, List.length_take]; omega)]
  rw [List.length_map, List.length_take, Nat.min_eq_left (by omega), Nat.sub_self]
  rfl
/-- One of them is made from none, by nothing. -/
theorem Rb.put {g c : Nat} (h : Rb B C r (.slice (some ⟨g, 0, none⟩) m.L.length c) vs m w) (hi : m.L[i]? = some s) :
    Rb B C r (.slice (some ⟨g, 0, none⟩) m.L.length c) (vs.set i (.slice none 0 0)) { m with L := m.L.set i { s with fr := -1, by_ := [] } } ((w.setCell ⟨g, i * 4 + 1, none⟩ (.int .i64 (-1))).setCell ⟨g, i * 4 + 2, none⟩ (.slice none 0 0)) ∧ Ff TQ B w ((w.setCell ⟨g, i * 4 + 1, none⟩ (.int .i64 (-1))).setCell ⟨g, i * 4 + 2, none⟩ (.slice none 0 0)) := by
  have f := (fr_set g (i * 4 + 1) (.int .i64 (-1)) w).trans (fr_set g (i * 4 + 2) (.slice none 0 0) _)
  have hil := (List.getElem?_eq_some_iff.1 hi).1
  rcases h.row.2 with ⟨e0, _⟩ | ⟨g', c', cur, e0, hb, hg, p1, p2, p3, p4⟩
  · cases e0
  cases e0
  have ff : Ff TQ B w ((w.setCell ⟨g, i * 4 + 1, none⟩ (.int .i64 (-1))).setCell ⟨g, i * 4 + 2, none⟩ (.slice none 0 0)) := Ff.on f hb hg (.inr rfl)
  refine ⟨⟨h.lr, h.box.fr f fun e => ?_, ?_, ?_, fun j s' u h1 h2 => ?_⟩, ff⟩
  · unfold On at e; subst e
    have := h.box; unfold Lc at this; rw [hg] at this; cases this
  · show World.ownsRow _ B _ 4 _ (m.L.set i { s with fr := -1, by_ := [] }).length (flatR (m.L.set i { s with fr := -1, by_ := [] }) (vs.set i (.slice none 0 0)))
    rw [List.length_set, flatR_put (-1) [] (.slice none 0 0) h.bys.1 hi]
    exact row_set (row_set h.row (by omega)) (by omega)
  · show (vs.set i _).length = (m.L.set i _).length
    rw [List.length_set, List.length_set]; exact h.bys.1
  · have h1' : (m.L.set i { s with fr := -1, by_ := [] })[j]? = some s' := h1
    by_cases q : i = j
    · subst q
      rw [List.getElem?_set_self hil] at h1'
      rw [List.getElem?_set_self (by rw [h.bys.1]; exact hil)] at h2
      cases h1'; cases h2
      exact ⟨Dx.nil _ _ _, fun j hj => by cases hj⟩
    · rw [List.getElem?_set_ne q] at h1' h2
      have q := h.bys.2 j s' u h1' h2
      exact ⟨q.1.ff ff (tq_of (by decide) (by decide)) (tq_of (by decide) (by decide)), q.2⟩
theorem kids_none (I : Inw m) (hx : look m.L x = some s) : (kidsL m.L x).length = 0 ↔ s.on = -1 := by
  constructor
  · intro h
    refine Classical.byContradiction fun hon => ?_
    obtain ⟨t, ht, hf⟩ := I.inv.fam.on _ _ hx hon
    have : t ∈ kidsL m.L x := List.mem_filter.2 ⟨look_mem ht, by simpa using hf⟩
    rw [List.length_eq_zero_iff.1 h] at this; cases this
  · intro h
    rw [List.length_eq_zero_iff, List.eq_nil_iff_forall_not_mem]
    intro t ht
    have h1 := List.mem_filter.1 ht
    exact I.onk x s hx h _ t (mem_look I.inv.sq h1.1) (by simpa using h1.2)
theorem find_first {p : St → Bool} : ∀ {L : List St} {i : Nat} {s : St}, L[i]? = some s → p s = true → (∀ j s', j < i → L[j]? = some s' → p s' = false) → L.find? p = some s
  | [], i, s, h, _, _ => by simp at h
  | a :: L, 0, s, h, hp, _ => by simp at h; subst h; rw [List.find?_cons, hp]
  | a :: L, i + 1, s, h, hp, hn => by
    rw [List.find?_cons, hn 0 a (by omega) rfl]
    exact find_first (by simpa using h) hp fun j s' hj h' => hn (j + 1) s' (by omega) (by simpa using h')
set_option maxHeartbeats 16000000 in
theorem revict_any (h : Rw B C r m w) (I : Inw m) (hl : m.L.length ≤ 250) (h2 : 2 ≤ m.L.length) (hB : B ≤ w.heap.size) :
    Calls Try.prog 64 #[.pointer (some ⟨r, 0, none⟩)] w fun e w' => e = .returned (.tuple #[]) ∧ Rw B C r (evT m) w' ∧ Ff TQ B w w' := by
  obtain ⟨N, hN⟩ : ∃ N, m.L.length = N := ⟨_, rfl⟩
  have HH : Hid (Rw B C r m w ∧ Inw m ∧ 2 ≤ N ∧ B ≤ w.heap.size ∧ m.L.length = N) := ⟨h, I, by omega, hB, hN⟩
  obtain ⟨v, vs, hb⟩ := h
  have c1 := hb.box.at (j := 1) rfl
  have c2 := hb.box.at (j := 2) rfl
  obtain ⟨a, c, hv, hc1, hc2⟩ := owns_form hb.row
  unfold maxLen at hc2
  have HC : Hid (∀ i, i < N → ∃ g s, a = some ⟨g, 0, none⟩ ∧ w.cell? ⟨g, i * 4, none⟩ = some (.int .i64 s.seq) ∧ w.cell? ⟨g, i * 4 + 1, none⟩ = some (.int .i64 s.fr) ∧ m.L[i]? = some s) := fun i hi => by
    obtain ⟨s, hs⟩ : ∃ s, m.L[i]? = some s := ⟨_, List.getElem?_eq_getElem (by omega)⟩
    obtain ⟨g, c', u, e, _, _, _, _, q0, q1, _⟩ := hb.cell hs
    rw [hv] at e; cases e
    exact ⟨g, s, rfl, q0, q1, hs⟩
  rw [hv, hN] at c1
  rw [hN] at hl hc1
  clear hb I hB hN hv h2
  go_enter Try.func64, Try.ntmps64
  go_wp2_with fail
  go_loopw [2] (fun v2 wr => ∃ (i k : Nat), i ≤ N ∧ v2 = .int .i64 i ∧ wr = w.drewN k ∧ Hid (∀ j s', j < i → m.L[j]? = some s' → bareP m s' = false)) (fun v2 _ => N - (intOf v2).toNat)
  case atStart => exact ⟨0, 0, Nat.zero_le _, rfl, rfl, fun j s' hj _ => by omega⟩
  case round =>
    obtain ⟨i, k, hi, rfl, rfl, HI⟩ := hrel
    have HK : Hid (∀ z, Kp (w.drewN k) z → ∀ x, Calls Try.prog 71 #[.pointer (some ⟨r, 0, none⟩), .int .i64 x] z fun e w' => e = .returned (.tuple #[.int .i64 (kidsL m.L x).length, .int .i64 (newest m.L x)]) ∧ w' = z) := fun z kz x => rkids_any (HH.out.1.kp (kp_trans (kp_drewN _ _) kz)) (by rw [HH.out.2.2.2.2]; exact hl) x
    rcases Nat.lt_or_ge i N with p | p
    · have d1 : decide ((i : Int) < (N : Int)) = true := decide_eq_true (by omega)
      have d2 : decide (i < N) = true := decide_eq_true p
      obtain ⟨g, s, rfl, q0, q1, hs⟩ := HC.out i p
      have HS : Hid (m.L[i]? = some s) := hs
      have hls : Hid (look m.L s.seq = some s) := mem_look HH.out.2.1.inv.sq (List.mem_of_getElem? hs)
      have HD : Hid (((kidsL m.L s.seq).length = 0 ∧ s.on = -1) ∨ ((kidsL m.L s.seq).length ≠ 0 ∧ s.on ≠ -1)) := by
        have := kids_none HH.out.2.1 hls.out
        by_cases e : s.on = -1
        · exact .inl ⟨this.2 e, e⟩
        · exact .inr ⟨fun q => e (this.1 q), e⟩
      have HN1 : Hid (bareP m s = false → ∀ j s', j < i + 1 → m.L[j]? = some s' → bareP m s' = false) := fun e j s' hj h' => by
        by_cases q : j = i
        · subst q; rw [HS.out] at h'; cases h'; exact e
        · exact HI.out j s' (by omega) h'
      have HKi : Hid (Calls Try.prog 71 #[.pointer (some ⟨r, 0, none⟩), .int .i64 s.seq] (w.drewN k) fun e w' => e = .returned (.tuple #[.int .i64 (kidsL m.L s.seq).length, .int .i64 (newest m.L s.seq)]) ∧ w' = w.drewN k) := HK.out _ (Below.refl _ _) _
      clear hs HK
      obtain ⟨kz, hkz⟩ : ∃ kz, (kidsL m.L s.seq).length = kz := ⟨_, rfl⟩
      rw [hkz] at HKi HD
      clear hkz
      rcases HD.out with ⟨rfl, e2⟩ | ⟨e1, e2⟩
      · by_cases e3 : s.seq = m.now
        · have d3 : (s.seq != m.now) = false := by simp [e3]
          have HNx : Hid (∀ j s', j < i + 1 → m.L[j]? = some s' → bareP m s' = false) := HN1.out (by simp [bareP, e3])
          clear e2 e3 HD HN1 HI
          go_wp2_with fail
          refine Calls.mono HKi.out ?_
          rintro e w5 ⟨rfl, rfl⟩
          clear HKi
          go_wp2_with fail
          go_quiet (fail)
          go_wp2_with fail
          go_roundw
          case rel => exact ⟨i + 1, k + nq, by omega, by go_num, by first | exact drew2 _ _ _ | rfl, HNx.out⟩
          case measure => simp only [intOf]; omega
        · have d3 : (s.seq != m.now) = true := by simpa using e3
          have HG : Hid (∀ k, Calls Try.prog 72 #[.pointer (some ⟨r, 0, none⟩), .int .i64 i] (w.drewN k) fun e w' => e = .returned (.tuple #[]) ∧ Rw B C r (evT m) w' ∧ Ff TQ B w w') := fun k => by
            have hbp : bareP m s = true := by simp [bareP, e2, e3]
            have hfd := find_first HS.out hbp HI.out
            have hfr := bare_fr HH.out.2.1.inv.fam HH.out.2.1.onk HH.out.2.1.inv.nw hls.out e2 e3
            have hxf := HH.out.2.1.inv.fam.fr _ _ hls.out
            refine (rgone_any (HH.out.1.kp (kp_drewN w k)) HH.out.2.1.inv.sq (by rw [HH.out.2.2.2.2]; exact hl) HS.out (Nat.le_trans HH.out.2.2.2.1 (kp_drewN w k).size) (.inr ⟨by omega, by omega, HH.out.2.1.inv.fam.from_there hls.out hfr⟩)).mono ?_
            rintro e w' ⟨rfl, r1, r2⟩
            rw [ev_some hfd]
            exact ⟨rfl, r1, (Ff.kp (kp_drewN _ _)).trans r2⟩
          clear e2 e3 HD HN1 HI
          go_wp2_with fail
          refine Calls.mono HKi.out ?_
          rintro e w5 ⟨rfl, rfl⟩
          clear HKi
          go_wp2_with fail
          go_quiet (fail)
          rw [drew2]
          go_wp2_with fail
          refine Calls.mono (HG.out _) ?_
          rintro e w6 ⟨rfl, r⟩
          have HX : Hid _ := r
          clear HG r
          go_wp2_with fail
          refine bodyPost_ret (results_none rfl _ _ _) rfl ?_
          exact ⟨rfl, HX.out⟩
      · have d3 : ((kz : Int) == 0) = false := beq_eq_false_iff_ne.2 (by omega)
        have d4 : (kz == 0) = false := beq_eq_false_iff_ne.2 e1
        have HNx : Hid (∀ j s', j < i + 1 → m.L[j]? = some s' → bareP m s' = false) := HN1.out (by simp [bareP, e2])
        clear e1 e2 HD HN1 HI
        go_wp2_with fail
        refine Calls.mono HKi.out ?_
        rintro e w5 ⟨rfl, rfl⟩
        clear HKi
        go_wp2_with fail
        go_quiet (fail)
        go_wp2_with fail
        go_roundw
        case rel => exact ⟨i + 1, k + nq, by omega, by go_num, by first | exact drew2 _ _ _ | rfl, HNx.out⟩
        case measure => simp only [intOf]; omega
    · have d1 : decide ((i : Int) < (N : Int)) = false := decide_eq_false (by omega)
      have d2 : decide (i < N) = false := decide_eq_false (by omega)
      obtain rfl : i = N := by omega
      have hfn : m.L.find? (bareP m) = none := List.find?_eq_none.2 fun s hs => by
        obtain ⟨j, hj⟩ := List.getElem?_of_mem hs
        have hjl := (List.getElem?_eq_some_iff.1 hj).1
        rw [HH.out.2.2.2.2] at hjl
        rw [HI.out j s hjl hj]; simp
      have HF : Hid (m.L.find? (bareP m) = none) := hfn
      obtain ⟨g, s, rfl, q0, q1, hs⟩ := HC.out 0 (by have := HH.out.2.2.1; omega)
      obtain ⟨M, hLM⟩ : ∃ M, m.L = s :: M := by
        cases e : m.L with
        | nil => rw [e] at hs; cases hs
        | cons a M => rw [e] at hs; cases hs; exact ⟨M, rfl⟩
      have FM := HH.out.2.1.inv.fam
      have SM := HH.out.2.1.inv.sq
      rw [hLM] at FM SM
      obtain ⟨_, hsf, _⟩ := root_first FM SM
      have hno1 : look m.L (-1) = none := by
        cases e : look m.L (-1) with
        | none => rfl
        | some z => have := HH.out.2.1.inv.fam.fr _ _ e; omega
      have hcut : cutT m.L s.seq s.fr = M := by
        unfold cutT
        have e1 : dropL m.L s.seq = M := by rw [drop_at_idx HH.out.2.1.inv.sq hs, hLM]; rfl
        rw [hsf, look_drop, hno1, e1]
        split
        · rename_i h; split at h <;> cases h
        · rfl
      rw [hsf] at q1
      have HM : Hid (m.L = s :: M ∧ M.length + 1 = i) := ⟨hLM, by have := HH.out.2.2.2.2; rw [hLM] at this; simpa using this⟩
      have HG : Hid (Calls Try.prog 72 #[.pointer (some ⟨r, 0, none⟩), .int .i64 0] (w.drewN k) fun e w' => e = .returned (.tuple #[]) ∧ Rw B C r { m with L := M } w' ∧ Ff TQ B w w') := by
        have := rgone_any (HH.out.1.kp (kp_drewN w k)) HH.out.2.1.inv.sq (by rw [HH.out.2.2.2.2]; exact hl) (i := 0) hs (Nat.le_trans HH.out.2.2.2.1 (kp_drewN w k).size) (.inl ⟨hsf, hno1⟩)
        refine this.mono ?_
        rintro e w' ⟨rfl, r1, r2⟩
        rw [hcut] at r1
        exact ⟨rfl, r1, (Ff.kp (kp_drewN _ _)).trans r2⟩
      have hi0 : (0 : Int) < (i : Int) := by have := HH.out.2.2.1; omega
      clear HI HC HK hfn hs hLM FM SM hsf hno1 hcut
      obtain ⟨K, hK⟩ : ∃ K, M.length = K := ⟨_, rfl⟩
      have HKL : Hid (M.length = K ∧ K + 1 = i ∧ i ≤ 250) := ⟨hK, by have := HM.out.2; omega, hl⟩
      have hK2 : (K : Int) ≤ 250 := by have := HM.out.2; omega
      have HEV : Hid (evT m = { m with L := rootT m.L } ∧ rootT m.L = undone M s.seq K) := ⟨ev_none HF.out, by rw [HM.out.1, ← hK, undone_all]; rfl⟩
      clear hK
      go_wp2_with fail
      go_loopw [5] (fun v5 wr => v5 = .int .i64 0 ∧ wr = w.drewN k) (fun _ _ => 0)
      case atStart => exact ⟨rfl, rfl⟩
      case round =>
        obtain ⟨rfl, rfl⟩ := hrel
        go_wp2_with fail
        refine Calls.mono HG.out ?_
        rintro e w6 ⟨rfl, r1, r2⟩
        have H6 : Hid (Rw B C r { m with L := M } w6 ∧ Ff TQ B w w6) := ⟨r1, r2⟩
        clear HG r1 r2 c1 c2 q0 q1
        go_wp2_with fail
        go_loopw [7] (fun v7 wr => ∃ j : Nat, j ≤ K ∧ v7 = .int .i64 j ∧ Hid (Rw B C r { m with L := undone M s.seq j } wr ∧ Ff TQ B w wr)) (fun v7 _ => K - (intOf v7).toNat)
        case atStart => exact ⟨0, Nat.zero_le _, rfl, by rw [undone_zero]; exact H6.out.1, H6.out.2⟩
        case round =>
          obtain ⟨j, hj, rfl, HJ⟩ := hrel
          clear H6
          rcases Nat.lt_or_ge j K with p | p
          · have d3 : decide ((j : Int) < (K : Int)) = true := decide_eq_true (by omega)
            have d4 : decide (j < K) = true := decide_eq_true p
            obtain ⟨⟨v', vs', hb⟩, hf⟩ := HJ.out
            obtain ⟨sj, hsj⟩ : ∃ s, M[j]? = some s := ⟨_, List.getElem?_eq_getElem (by have := HKL.out; omega)⟩
            have hat := undone_at (x := s.seq) hsj
            obtain ⟨g', c', u', rfl, hBg', hc1', hc2', _, q0, q1, q2, _, fz⟩ := hb.cell hat
            have c1 := hb.box.at (j := 1) rfl
            have hlen : (undone M s.seq j).length = K := by rw [undone_len]; exact HKL.out.1
            have hstep := undone_step (x := s.seq) hsj
            have f1 := fz (j * 4 + 1)
            have f2 := fz (j * 4 + 2)
            have hcK : K ≤ c' := by have : (undone M s.seq j).length ≤ c' := hc1'; omega
            have hpI : (j : Int) < (K : Int) := by omega
            by_cases e : sj.fr = s.seq
            · have d5 : (sj.fr == s.seq) = true := by simpa using e
              have HX : Hid (Rw B C r { m with L := undone M s.seq (j + 1) } ((wr.setCell ⟨g', j * 4 + 1, none⟩ (.int .i64 (-1))).setCell ⟨g', j * 4 + 2, none⟩ (.slice none 0 0)) ∧ Ff TQ B w ((wr.setCell ⟨g', j * 4 + 1, none⟩ (.int .i64 (-1))).setCell ⟨g', j * 4 + 2, none⟩ (.slice none 0 0))) := by
                obtain ⟨r1, r2⟩ := hb.put hat
                rw [hstep]
                have e9 : unroot s.seq sj = { sj with fr := -1, by_ := [] } := by unfold unroot; rw [if_pos e]
                rw [e9]
                exact ⟨⟨_, _, r1⟩, hf.trans r2⟩
              have hbb : r ≠ g' := fun q => by
                have h1 := row_ne hb.row hb.box (by decide)
                rw [q] at h1; exact h1 rfl
              rw [show ({ m with L := undone M s.seq j } : Tr).L.length = K from hlen] at c1
              have c1' : (wr.setCell ⟨g', j * 4 + 1, none⟩ (.int .i64 (-1))).cell? ⟨r, 1, none⟩ = some (.slice (some ⟨g', 0, none⟩) K c') := by
                have hb0 := hb.box.other (n := g') (off := j * 4 + 1) (v := .int .i64 (-1)) (Ne.symm hbb)
                have := hb0.at (j := 1) rfl
                rw [show ({ m with L := undone M s.seq j } : Tr).L.length = K from hlen] at this
                exact this
              have hbb2 : g' ≠ r := fun q => hbb q.symm
              clear hb hf hsj hat hstep fz hc1' hlen e HJ hc2'
              go_wp2_with fail
              go_roundw
              case rel => exact ⟨j + 1, by omega, by go_num, HX.out⟩
              case measure => simp only [intOf]; omega
            · have d5 : (sj.fr == s.seq) = false := by simpa using e
              have HX : Hid (Rw B C r { m with L := undone M s.seq (j + 1) } wr ∧ Ff TQ B w wr) := by
                rw [hstep]
                have e9 : unroot s.seq sj = sj := by unfold unroot; rw [if_neg e]
                rw [e9]
                have e10 : (undone M s.seq j).set j sj = undone M s.seq j := by
                  refine List.ext_getElem? fun z => ?_
                  by_cases q : j = z
                  · subst q; rw [List.getElem?_set_self (by rw [hlen]; exact p), hat]
                  · rw [List.getElem?_set_ne q]
                rw [e10]
                exact ⟨⟨_, _, hb⟩, hf⟩
              rw [show ({ m with L := undone M s.seq j } : Tr).L.length = K from hlen] at c1
              clear hb hf hsj hat hstep fz hc1' hlen e q2 HJ hc2'
              go_wp2_with fail
              go_roundw
              case rel => exact ⟨j + 1, by omega, by go_num, HX.out⟩
              case measure => simp only [intOf]; omega
          · have d3 : decide ((j : Int) < (K : Int)) = false := decide_eq_false (by omega)
            have d4 : decide (j < K) = false := decide_eq_false (by omega)
            obtain rfl : j = K := by omega
            obtain ⟨⟨v', vs', hb⟩, hf⟩ := HJ.out
            have c1 := hb.box.at (j := 1) rfl
            obtain ⟨a', cc', hv', _⟩ := owns_form hb.row
            rw [hv', show ({ m with L := undone M s.seq j } : Tr).L.length = j by show (undone M s.seq j).length = j; rw [undone_len]; exact HKL.out.1] at c1
            have HX : Hid (Rw B C r (evT m) wr ∧ Ff TQ B w wr) := by
              rw [HEV.out.1, HEV.out.2]; exact HJ.out
            clear hb hf hv' HJ
            go_wp2_with fail
            go_end0
            exact ⟨rfl, HX.out⟩
end
end Go.Proofs.Ytbkhhgaihhbhjaa
/- The document's Add, whatever room there is. -/
namespace Go.Proofs.Ytbkhhgaihhbhjaa
open Go.ChangeShapes Go.WideShapes Go.ChangeAt Go.RowKit Go.Maps Go.MapKept
set_option linter.unusedVariables false
set_option linter.unusedSimpArgs false
set_option maxRecDepth 100000
/-- How many lie in the document's tree at r. -/
def cntR (r : Nat) (w : World) : Nat := match w.cell? ⟨r, 1, none⟩ with
  | some (.slice _ n _) => n
  | _ => 0
theorem cntR_eq {B C r : Nat} {m : Tr} {w : World} (h : Rw B C r m w) : cntR r w = m.L.length := by
  obtain ⟨v, vs, h⟩ := h
  unfold cntR
  rw [h.box.at (j := 1) rfl]
  obtain ⟨a, c, e, _⟩ := owns_form h.row
  rw [e]
/-- Where the loop of Add stands. -/
def LooR (B r : Nat) (m : Tr) (ds : List Dl) (w wr : World) : Prop :=
  (Rw B wr.heap.size r (addT m ds) wr ∧ Ff TQ B w wr) ∨ (m.most < ((addT m ds).L.length : Int) ∧ Rw B wr.heap.size r (evT (addT m ds)) wr ∧ Ff TQ B w wr)
section
variable {B C r : Nat} {v : Value} {vs : List Value} {m : Tr} {w w1 : World}
set_option maxHeartbeats 16000000 in
theorem radd_any (h : Rw B C r m w) (I0 : Inw m) (hn : m.next ≤ 9999) (hm : (m.L.length : Int) ≤ m.most) (hmo : 1 ≤ m.most ∧ m.most ≤ 200) (hB : B ≤ w.heap.size)
    {P : Nat → Prop} {X : Xl} {D : Nat} (ok : Okx D X) {dv : Value} {ds : List Dl} (hd : Dr P X dv ds w) (hX : ∀ {v ls w w'}, X v ls w → Ff TQ B w w' → X v ls w') (hP : ∀ {w w'}, Ff TQ B w w' → Dr P X dv ds w → Dr P X dv ds w') (hf : Few 2000 ds) :
    Calls Try.prog 46 #[.pointer (some ⟨r, 0, none⟩), dv] w fun e w' => e = .returned (.int .i64 m.next) ∧ Rw B w'.heap.size r (addE m ds) w' ∧ Ff TQ B w w' := by
  have I := I0.inv
  have hl : m.L.length ≤ 240 := by omega
  have HJ : Hid (Inw m ∧ m.next ≤ 9999 ∧ (m.L.length : Int) ≤ m.most ∧ (1 ≤ m.most ∧ m.most ≤ 200) ∧ Few 2000 ds) := ⟨I0, hn, hm, hmo, hf⟩
  obtain ⟨i9, hi9, z0, z1, z2⟩ := info_parts infoRS
  have hlt := I.lt
  have hxn := I.fam.none_next
  obtain ⟨v, vs, h⟩ := h
  have c3 := h.box.at (j := 3) rfl
  have g3 := h.box.fz 3
  obtain ⟨k, hk⟩ := idx_of I.nw
  obtain ⟨s0, hs0⟩ := Option.ne_none_iff_exists'.1 I.nw
  have hks := at_of I.sq hk hs0
  obtain ⟨W1, hW1⟩ : ∃ W1, w.setCell ⟨r, 3, none⟩ (.int .i64 (m.next + 1)) = W1 := ⟨_, rfl⟩
  have HW1 : Hid (_ = W1) := hW1
  obtain ⟨r1, f1⟩ := h.nxt (m.next + 1)
  rw [hW1] at r1 f1
  have hd1 := hP f1 hd
  have y1 := r1.box.at (j := 1) rfl
  have y2 := r1.box.at (j := 2) rfl
  obtain ⟨g, cp, u0, rfl, hBg, hc1, hc2, _, _⟩ := h.cell hks
  obtain ⟨da, dn, dc, rfl⟩ : ∃ a n c, dv = .slice a n c := by obtain ⟨a, c, rfl, _⟩ := hd.form; exact ⟨a, _, c, rfl⟩
  have HC : Hid (∀ z, Kp W1 z → Calls Try.prog 61 #[.slice da dn dc] z fun e w' => ∃ v', e = .returned v' ∧ Dw 0 v' ds w' ∧ Kp W1 w') := fun z kz => (lent_any ok (hd1.kp ok kz) hf (by decide)).mono (by rintro e w' ⟨v', rfl, q1, q2⟩; exact ⟨v', rfl, q1.zero, kp_trans kz q2⟩)
  have HR : Hid (Rb B C r (.slice (some ⟨g, 0, none⟩) m.L.length cp) vs { m with next := m.next + 1 } W1 ∧ Ff TQ B w W1 ∧ B ≤ W1.heap.size) := ⟨r1, f1, Nat.le_trans hB f1.size⟩
  have HI : Hid (Inv m ∧ (m.L.map St.seq)[k]? = some m.now ∧ look m.L m.next = none ∧ (m.L.length : Int) ≤ m.most ∧ m.L.length ≤ 240) := ⟨I, hk, hxn, hm, hl⟩
  obtain ⟨NL, hNL⟩ : ∃ n, m.L.length = n := ⟨_, rfl⟩
  have HNL : Hid (m.L.length = NL) := hNL
  have HADD : Hid (∀ w3 dv', Dw 0 dv' ds w3 → Kp W1 w3 →
      (w3.alloc (.cells #[.int .i64 m.next, .int .i64 m.now, dv', .int .i64 (-1)] 81)).ownsRow B 81 4 (.slice (some ⟨g, 0, none⟩) NL cp) NL (flatR m.L vs) ∧
      (∀ j u, ([.int .i64 m.next, .int .i64 m.now, dv', .int .i64 (-1)] : List Value)[j]? = some u → (w3.alloc (.cells #[.int .i64 m.next, .int .i64 m.now, dv', .int .i64 (-1)] 81)).cell? ((⟨w3.heap.size, 0, none⟩ : Addr).add j) = some u) ∧
      (∀ u ∈ ([.int .i64 m.next, .int .i64 m.now, dv', .int .i64 (-1)] : List Value), u.oneCell' = true) ∧
      B ≤ (w3.alloc (.cells #[.int .i64 m.next, .int .i64 m.now, dv', .int .i64 (-1)] 81)).heap.size ∧
      ∀ w5 v5, w5.ownsRow B 81 4 v5 (NL + 1) (flatR m.L vs ++ [.int .i64 m.next, .int .i64 m.now, dv', .int .i64 (-1)]) → (w3.alloc (.cells #[.int .i64 m.next, .int .i64 m.now, dv', .int .i64 (-1)] 81)).grownBy w5 (Value.slice (some ⟨g, 0, none⟩) NL cp).ownBlock →
        w5.cell? ⟨r, 1, none⟩ = some (.slice (some ⟨g, 0, none⟩) NL cp) ∧ w5.frozen? ⟨r, 1, none⟩ = false ∧ w5.cell? ⟨r, 2, none⟩ = some (.int .i64 m.now) ∧ (w5.setCell ⟨r, 1, none⟩ v5).cell? ⟨r, 2, none⟩ = some (.int .i64 m.now) ∧
        Hid (Rb B w5.heap.size r v5 (vs ++ [dv']) { m with next := m.next + 1, L := m.L ++ [⟨m.next, m.now, -1, ds⟩] } (w5.setCell ⟨r, 1, none⟩ v5) ∧ Ff TQ B w (w5.setCell ⟨r, 1, none⟩ v5))) := fun w3 dv' d3 k3 => by
    have k4 : Kp W1 (w3.alloc (.cells #[.int .i64 m.next, .int .i64 m.now, dv', .int .i64 (-1)] 81)) := kp_more k3 _
    have rb4 := HR.out.1.kp k4
    have row4 : World.ownsRow (w3.alloc (.cells #[.int .i64 m.next, .int .i64 m.now, dv', .int .i64 (-1)] 81)) B 81 4 (.slice (some ⟨g, 0, none⟩) m.L.length cp) m.L.length (flatR m.L vs) := rb4.row
    refine ⟨by rw [hNL] at row4; exact row4, fun j u hj => by rw [addr_add]; exact (Lc.new w3 [.int .i64 m.next, .int .i64 m.now, dv', .int .i64 (-1)] 81).at hj, fun u hu => ?_, Nat.le_trans HR.out.2.2 k4.size, fun w5 v5 x1 x2 => ?_⟩
    · obtain ⟨a, c, rfl, _⟩ := d3.form
      simp only [List.mem_cons, List.not_mem_nil, or_false] at hu
      rcases hu with rfl | rfl | rfl | rfl <;> rfl
    · rw [← hNL] at x1 x2
      have b5 := rb4.box.fr (fr_grown x2) fun e => row_ne rb4.row rb4.box (by decide) e.symm
      obtain ⟨q1, q2⟩ := rb4.add (s := ⟨m.next, m.now, -1, ds⟩) (d3.kp (okRow _ _) (kp_alloc _ _)) x1 x2
      rw [hNL] at b5
      exact ⟨b5.at (j := 1) rfl, b5.fz _, b5.at (j := 2) rfl, q1.box.at (j := 2) rfl, q1, (HR.out.2.1.trans (Ff.kp k4)).trans q2⟩
  rw [hNL] at y1 hc1 hl hm
  clear h r1 f1 hd hd1 hk hs0 hks hxn hW1 hf ok I hNL I0 hmo
  unfold maxLen at hc2
  go_enter Try.func46, Try.ntmps46
  go_upto_region 3 with fail
  rw [HW1.out]
  refine wp_region_noPanic ?_
  refine wp_region_held_drew (S := fun z => z.cell? ⟨r, 2, none⟩ = some (.int .i64 m.now)) (by kernel_rfl) (y2) (fun hHeld => ?_)
  refine takeAt 0 (some 17) ?_ rfl rfl (by kernel_rfl) (by kernel_rfl) (by kernel_rfl) (fun _ _ _ h => h) (Or.inl ⟨by rfl, ?_⟩) hHeld ?_
  rotate_left
  · intro w hSw
    go_simp <;> with_reducible rfl
  try simp only [Act.put, List.setIfInBounds_toArray, List.set_cons_zero, List.set_cons_succ]
  refine takeAt 1 (some 18) ?_ rfl rfl (by kernel_rfl) (by kernel_rfl) (by kernel_rfl) (fun _ _ _ h => h) (Or.inl ⟨by rfl, ?_⟩) hHeld ?_
  rotate_left
  · intro w hSw
    go_simp <;> with_reducible rfl
  try simp only [Act.put, List.setIfInBounds_toArray, List.set_cons_zero, List.set_cons_succ]
  refine takeAt 2 (some 19) ?_ rfl rfl (by kernel_rfl) (by kernel_rfl) (by kernel_rfl) (fun _ _ _ h => h) (Or.inl ⟨by rfl, ?_⟩) hHeld ?_
  rotate_left
  · intro w hSw
    go_simp <;> with_reducible rfl
  try simp only [Act.put, List.setIfInBounds_toArray, List.set_cons_zero, List.set_cons_succ]
  refine takeAt 3 (some 20) ?_ rfl rfl (by kernel_rfl) (by kernel_rfl) (by kernel_rfl) (fun _ _ _ h => h) (Or.inl ⟨by rfl, ?_⟩) hHeld ?_
  rotate_left
  · intro w hSw
    go_simp <;> with_reducible rfl
  try simp only [Act.put, List.setIfInBounds_toArray, List.set_cons_zero, List.set_cons_succ]
  refine takeAt 5 (some 22) ?_ rfl rfl (by kernel_rfl) (by kernel_rfl) (by kernel_rfl) (fun _ _ _ h => h) (Or.inl ⟨by rfl, ?_⟩) hHeld ?_
  rotate_left
  · intro w hSw
    go_simp <;> with_reducible rfl
  try simp only [Act.put, List.setIfInBounds_toArray, List.set_cons_zero, List.set_cons_succ]
  refine takeAt 6 (some 23) ?_ rfl rfl (by kernel_rfl) (by kernel_rfl) (by kernel_rfl) (fun _ _ _ h => h) (Or.inl ⟨by rfl, ?_⟩) hHeld ?_
  rotate_left
  · intro w hSw
    go_simp <;> with_reducible rfl
  try simp only [Act.put, List.setIfInBounds_toArray, List.set_cons_zero, List.set_cons_succ]
  refine takeAt 7 (some 24) ?_ rfl rfl (by kernel_rfl) (by kernel_rfl) (by kernel_rfl) (fun _ _ _ h => h) (Or.inl ⟨by rfl, ?_⟩) hHeld ?_
  rotate_left
  · intro w hSw
    go_simp <;> with_reducible rfl
  try simp only [Act.put, List.setIfInBounds_toArray, List.set_cons_zero, List.set_cons_succ]
  refine takeAt 8 (some 25) ?_ rfl rfl (by kernel_rfl) (by kernel_rfl) (by kernel_rfl) (fun _ _ _ h => h) (Or.inl ⟨by rfl, ?_⟩) hHeld ?_
  rotate_left
  · intro w hSw
    go_simp <;> with_reducible rfl
  try simp only [Act.put, List.setIfInBounds_toArray, List.set_cons_zero, List.set_cons_succ]
  refine takeAt 9 (some 26) ?_ rfl rfl (by kernel_rfl) (by kernel_rfl) (by kernel_rfl) (fun _ _ _ h => h) (Or.inl ⟨by rfl, ?_⟩) hHeld ?_
  rotate_left
  · intro w hSw
    go_simp <;> with_reducible rfl
  try simp only [Act.put, List.setIfInBounds_toArray, List.set_cons_zero, List.set_cons_succ]
  refine takeAt 10 (some 27) ?_ rfl rfl (by kernel_rfl) (by kernel_rfl) (by kernel_rfl) (fun _ _ _ h => h) (Or.inl ⟨by rfl, ?_⟩) hHeld ?_
  rotate_left
  · intro w hSw
    go_simp <;> with_reducible rfl
  try simp only [Act.put, List.setIfInBounds_toArray, List.set_cons_zero, List.set_cons_succ]
  refine wpAnyH_ready (rs := [4, 11]) (by kernel_rfl) (by simp) ?_
  refine AllReadyH.cons rfl (fun K hK => ?ca) (AllReadyH.cons rfl (fun K hK => ?cb) AllReadyH.nil)
  case' ca =>
    go_simp
    refine hK.out _ _ hHeld (fun hHeld => ?_)
    clear hK K
    try simp only [Act.put, List.setIfInBounds_toArray, List.set_cons_zero, List.set_cons_succ]
    refine callAt 11 28 61 (vals := #[.slice da dn dc]) (by kernel_rfl) rfl rfl rfl rfl (by simp [Act.eval]) Try.func61 (by kernel_rfl) (by kernel_rfl) ?_
    refine Calls.mono (HC.out _ (by first | exact Below.refl _ _ | exact kp_drew _)) ?_
    rintro e w3 ⟨lv, rfl, d3, k3⟩
    obtain ⟨lva, lvn, lvc, rfl⟩ : ∃ a n c, lv = .slice a n c := by obtain ⟨a, c, rfl, _⟩ := d3.form; exact ⟨a, _, c, rfl⟩
    have yl := kp_cell k3 y1
    have y22 := kp_cell k3 y2
    obtain ⟨n1, n2, n3, n4, n5⟩ := HADD.out w3 _ d3 k3
    have N1 : Hid _ := n1
    have N2 : Hid _ := n2
    have N3 : Hid _ := n3
    have N4 : Hid _ := n4
    have N5 : Hid _ := n5
    clear n1 n2 n3 n4 n5 d3 HADD HC
    refine ⟨_, rfl, y22, fun hHeld => ?_⟩
    try simp only [Act.put, List.setIfInBounds_toArray, List.set_cons_zero, List.set_cons_succ]
    refine takeAt 12 (some 29) ?_ rfl rfl (by kernel_rfl) (by kernel_rfl) (by kernel_rfl) (fun _ _ _ h => h) (Or.inl ⟨by rfl, ?_⟩) hHeld ?_
    rotate_left
    · intro w hSw
      go_simp <;> with_reducible rfl
    try simp only [Act.put, List.setIfInBounds_toArray, List.set_cons_zero, List.set_cons_succ]
    refine wpAnyH_ready (rs := [13]) (by kernel_rfl) (by simp) ?_
    refine AllReadyH.cons rfl (fun K hK => ?_) AllReadyH.nil
    go_simp
    refine hK.out _ _ (kp_cell (kp_alloc _ _) hHeld) (fun hHeld => ?_)
    clear hK K
    try simp only [Act.put, List.setIfInBounds_toArray, List.set_cons_zero, List.set_cons_succ]
    refine wpAnyH_ready (rs := [14]) (by kernel_rfl) (by simp) ?_
    refine AllReadyH.cons rfl (fun K1 hK => ?_) AllReadyH.nil
    refine step_append_lies _ rfl (.tmp 21) (.tmp 30) 46 rfl B 81 i9 _ 4 48 Try.underlying46 hi9 z0 z1 z2 rfl (by decide) (.slice (some ⟨g, 0, none⟩) NL cp) NL (flatR m.L vs) rfl N1.out ⟨w3.heap.size, 0, none⟩ 1 1 [.int .i64 m.next, .int .i64 m.now, .slice lva lvn lvc, .int .i64 (-1)] rfl rfl N2.out N3.out (by omega) (by unfold maxLen; omega) (by omega) N4.out (w3.heap.size + 1) (alloc_size _ _) ?_
    intro g5 cp5 w5 hown hgrow _ _
    obtain ⟨x1, x2, x3, x4, H5⟩ := N5.out w5 _ hown hgrow
    clear hown hgrow N1 N2 N3 N4 N5
    change K1 (Act.put _ (some 31) (.slice (some ⟨g5, 0, none⟩) (NL + 1) cp5)) w5
    refine hK.out _ _ x3 (fun hHeld => ?_)
    clear hK K1
    try simp only [Act.put, List.setIfInBounds_toArray, List.set_cons_zero, List.set_cons_succ]
    refine takeAt 15 (some 32) ?_ rfl rfl (by kernel_rfl) (by kernel_rfl) (by kernel_rfl) (fun _ _ _ h => h) (Or.inl ⟨by rfl, ?_⟩) hHeld ?_
    rotate_left
    · intro w hSw
      go_simp <;> with_reducible rfl
    try simp only [Act.put, List.setIfInBounds_toArray, List.set_cons_zero, List.set_cons_succ]
    refine takeAt 16 (some 33) ?_ rfl rfl (by kernel_rfl) (by kernel_rfl) (by kernel_rfl) (fun _ _ _ h => h) (Or.inl ⟨by rfl, ?_⟩) hHeld ?_
    rotate_left
    · intro w hSw
      go_simp <;> with_reducible rfl
    try simp only [Act.put, List.setIfInBounds_toArray, List.set_cons_zero, List.set_cons_succ]
    refine wpAnyH_ready (rs := [17]) (by kernel_rfl) (by simp) ?_
    refine AllReadyH.cons rfl (fun K hK => ?_) AllReadyH.nil
    go_simp
    refine hK.out _ _ (x4) (fun hHeld => ?_)
    clear hK K
    try simp only [Act.put, List.setIfInBounds_toArray, List.set_cons_zero, List.set_cons_succ]
    refine wpAnyH_done (by kernel_rfl) ?_ _
    refine NoPanic.normal ?_
  case' cb =>
    refine step_call 61 (vals := #[.slice da dn dc]) rfl rfl (by simp [Act.eval]) Try.func61 (by kernel_rfl) (by kernel_rfl) ?_
    refine Calls.mono (HC.out _ (by first | exact Below.refl _ _ | exact kp_drew _)) ?_
    rintro e w3 ⟨lv, rfl, d3, k3⟩
    obtain ⟨lva, lvn, lvc, rfl⟩ : ∃ a n c, lv = .slice a n c := by obtain ⟨a, c, rfl, _⟩ := d3.form; exact ⟨a, _, c, rfl⟩
    have yl := kp_cell k3 y1
    have y22 := kp_cell k3 y2
    obtain ⟨n1, n2, n3, n4, n5⟩ := HADD.out w3 _ d3 k3
    have N1 : Hid _ := n1
    have N2 : Hid _ := n2
    have N3 : Hid _ := n3
    have N4 : Hid _ := n4
    have N5 : Hid _ := n5
    clear n1 n2 n3 n4 n5 d3 HADD HC
    refine ⟨_, rfl, ?_⟩
    refine hK.out _ _ y22 (fun hHeld => ?_)
    clear hK K
    try simp only [Act.put, List.setIfInBounds_toArray, List.set_cons_zero, List.set_cons_succ]
    refine takeAt 12 (some 29) ?_ rfl rfl (by kernel_rfl) (by kernel_rfl) (by kernel_rfl) (fun _ _ _ h => h) (Or.inl ⟨by rfl, ?_⟩) hHeld ?_
    rotate_left
    · intro w hSw
      go_simp <;> with_reducible rfl
    try simp only [Act.put, List.setIfInBounds_toArray, List.set_cons_zero, List.set_cons_succ]
    refine wpAnyH_ready (rs := [4, 13]) (by kernel_rfl) (by simp) ?_
    refine AllReadyH.cons rfl (fun K hK => ?cc) (AllReadyH.cons rfl (fun K hK => ?cd) AllReadyH.nil)
    case' cc =>
      go_simp
      refine hK.out _ _ hHeld (fun hHeld => ?_)
      clear hK K
      try simp only [Act.put, List.setIfInBounds_toArray, List.set_cons_zero, List.set_cons_succ]
      refine wpAnyH_ready (rs := [13]) (by kernel_rfl) (by simp) ?_
      refine AllReadyH.cons rfl (fun K hK => ?_) AllReadyH.nil
      go_simp
      refine hK.out _ _ (kp_cell (kp_alloc _ _) hHeld) (fun hHeld => ?_)
      clear hK K
      try simp only [Act.put, List.setIfInBounds_toArray, List.set_cons_zero, List.set_cons_succ]
      refine wpAnyH_ready (rs := [14]) (by kernel_rfl) (by simp) ?_
      refine AllReadyH.cons rfl (fun K1 hK => ?_) AllReadyH.nil
      refine step_append_lies _ rfl (.tmp 21) (.tmp 30) 46 rfl B 81 i9 _ 4 48 Try.underlying46 hi9 z0 z1 z2 rfl (by decide) (.slice (some ⟨g, 0, none⟩) NL cp) NL (flatR m.L vs) rfl N1.out ⟨w3.heap.size, 0, none⟩ 1 1 [.int .i64 m.next, .int .i64 m.now, .slice lva lvn lvc, .int .i64 (-1)] rfl rfl N2.out N3.out (by omega) (by unfold maxLen; omega) (by omega) N4.out (w3.heap.size + 1) (alloc_size _ _) ?_
      intro g5 cp5 w5 hown hgrow _ _
      obtain ⟨x1, x2, x3, x4, H5⟩ := N5.out w5 _ hown hgrow
      clear hown hgrow N1 N2 N3 N4 N5
      change K1 (Act.put _ (some 31) (.slice (some ⟨g5, 0, none⟩) (NL + 1) cp5)) w5
      refine hK.out _ _ x3 (fun hHeld => ?_)
      clear hK K1
      try simp only [Act.put, List.setIfInBounds_toArray, List.set_cons_zero, List.set_cons_succ]
      refine takeAt 15 (some 32) ?_ rfl rfl (by kernel_rfl) (by kernel_rfl) (by kernel_rfl) (fun _ _ _ h => h) (Or.inl ⟨by rfl, ?_⟩) hHeld ?_
      rotate_left
      · intro w hSw
        go_simp <;> with_reducible rfl
      try simp only [Act.put, List.setIfInBounds_toArray, List.set_cons_zero, List.set_cons_succ]
      refine takeAt 16 (some 33) ?_ rfl rfl (by kernel_rfl) (by kernel_rfl) (by kernel_rfl) (fun _ _ _ h => h) (Or.inl ⟨by rfl, ?_⟩) hHeld ?_
      rotate_left
      · intro w hSw
        go_simp <;> with_reducible rfl
      try simp only [Act.put, List.setIfInBounds_toArray, List.set_cons_zero, List.set_cons_succ]
      refine wpAnyH_ready (rs := [17]) (by kernel_rfl) (by simp) ?_
      refine AllReadyH.cons rfl (fun K hK => ?_) AllReadyH.nil
      go_simp
      refine hK.out _ _ (x4) (fun hHeld => ?_)
      clear hK K
      try simp only [Act.put, List.setIfInBounds_toArray, List.set_cons_zero, List.set_cons_succ]
      refine wpAnyH_done (by kernel_rfl) ?_ _
      refine NoPanic.normal ?_
    case' cd =>
      go_simp
      refine hK.out _ _ (kp_cell (kp_alloc _ _) hHeld) (fun hHeld => ?_)
      clear hK K
      try simp only [Act.put, List.setIfInBounds_toArray, List.set_cons_zero, List.set_cons_succ]
      have yl2 := kp_cell (kp_alloc w3 (.cells #[.int .i64 m.next, .int .i64 m.now, .slice lva lvn lvc, .int .i64 (-1)] 81)) yl
      refine wpAnyH_ready (rs := [4]) (by kernel_rfl) (by simp) ?_
      refine AllReadyH.cons rfl (fun K hK => ?_) AllReadyH.nil
      go_simp
      refine hK.out _ _ (hHeld) (fun hHeld => ?_)
      clear hK K
      try simp only [Act.put, List.setIfInBounds_toArray, List.set_cons_zero, List.set_cons_succ]
      refine wpAnyH_ready (rs := [14]) (by kernel_rfl) (by simp) ?_
      refine AllReadyH.cons rfl (fun K1 hK => ?_) AllReadyH.nil
      refine step_append_lies _ rfl (.tmp 21) (.tmp 30) 46 rfl B 81 i9 _ 4 48 Try.underlying46 hi9 z0 z1 z2 rfl (by decide) (.slice (some ⟨g, 0, none⟩) NL cp) NL (flatR m.L vs) rfl N1.out ⟨w3.heap.size, 0, none⟩ 1 1 [.int .i64 m.next, .int .i64 m.now, .slice lva lvn lvc, .int .i64 (-1)] rfl rfl N2.out N3.out (by omega) (by unfold maxLen; omega) (by omega) N4.out (w3.heap.size + 1) (alloc_size _ _) ?_
      intro g5 cp5 w5 hown hgrow _ _
      obtain ⟨x1, x2, x3, x4, H5⟩ := N5.out w5 _ hown hgrow
      clear hown hgrow N1 N2 N3 N4 N5
      change K1 (Act.put _ (some 31) (.slice (some ⟨g5, 0, none⟩) (NL + 1) cp5)) w5
      refine hK.out _ _ x3 (fun hHeld => ?_)
      clear hK K1
      try simp only [Act.put, List.setIfInBounds_toArray, List.set_cons_zero, List.set_cons_succ]
      refine takeAt 15 (some 32) ?_ rfl rfl (by kernel_rfl) (by kernel_rfl) (by kernel_rfl) (fun _ _ _ h => h) (Or.inl ⟨by rfl, ?_⟩) hHeld ?_
      rotate_left
      · intro w hSw
        go_simp <;> with_reducible rfl
      try simp only [Act.put, List.setIfInBounds_toArray, List.set_cons_zero, List.set_cons_succ]
      refine takeAt 16 (some 33) ?_ rfl rfl (by kernel_rfl) (by kernel_rfl) (by kernel_rfl) (fun _ _ _ h => h) (Or.inl ⟨by rfl, ?_⟩) hHeld ?_
      rotate_left
      · intro w hSw
        go_simp <;> with_reducible rfl
      try simp only [Act.put, List.setIfInBounds_toArray, List.set_cons_zero, List.set_cons_succ]
      refine wpAnyH_ready (rs := [17]) (by kernel_rfl) (by simp) ?_
      refine AllReadyH.cons rfl (fun K hK => ?_) AllReadyH.nil
      go_simp
      refine hK.out _ _ (x4) (fun hHeld => ?_)
      clear hK K
      try simp only [Act.put, List.setIfInBounds_toArray, List.set_cons_zero, List.set_cons_succ]
      refine wpAnyH_done (by kernel_rfl) ?_ _
      refine NoPanic.normal ?_
  all_goals
    go_upto_region 4 with fail
    generalize hW6 : w5.setCell ⟨r, 1, none⟩ (.slice (some ⟨g5, 0, none⟩) (NL + 1) cp5) = W6 at H5 ⊢
    clear hW6 y1 y2 c3 g3 x1 x2 x3 x4 yl y22 k3
    obtain ⟨q6, f6⟩ := H5.out
    have hl6 : (m.L ++ [(⟨m.next, m.now, -1, ds⟩ : St)]).length = NL + 1 := by rw [List.length_append, HNL.out]; rfl
    have hnd6 := nd_snoc HI.out.1 ds
    have hk6 : ((m.L ++ [(⟨m.next, m.now, -1, ds⟩ : St)]).map St.seq)[k]? = some m.now := by
      rw [List.map_append, List.getElem?_append_left (List.getElem?_eq_some_iff.1 HI.out.2.1).1]; exact HI.out.2.1
    have hkN : k < NL := by have := (List.getElem?_eq_some_iff.1 HI.out.2.1).1; rw [List.length_map, HNL.out] at this; exact this
    have HF : Hid (∀ z, Kp W6 z → Calls Try.prog 60 #[.pointer (some ⟨r, 0, none⟩), .int .i64 m.now] z fun e w' => e = .returned (.int .i64 k) ∧ w' = z) := fun z kz => find_some (m := { m with next := m.next + 1, L := m.L ++ [⟨m.next, m.now, -1, ds⟩] }) ⟨_, _, q6.kp kz⟩ (by show (m.L ++ [_]).length ≤ 250; rw [hl6]; have := HI.out.2.2.2.2; have := HNL.out; omega) hnd6 hk6
    have y1 := q6.box.at (j := 1) rfl
    have y2 : W6.cell? ⟨r, 2, none⟩ = some (.int .i64 m.now) := q6.box.at (j := 2) rfl
    obtain ⟨s6, hs6⟩ : ∃ s, (m.L ++ [(⟨m.next, m.now, -1, ds⟩ : St)])[k]? = some s := ⟨_, List.getElem?_eq_getElem (by rw [hl6]; omega)⟩
    obtain ⟨g6, c6, u6, e6, _, hcc1, hcc2, _, _, _, _, y3, fz6⟩ := q6.cell hs6
    simp only [Value.slice.injEq, Option.some.injEq, Addr.mk.injEq, and_true, true_and] at e6
    obtain ⟨e7, e9, e8⟩ := e6
    clear e9
    rw [← e7] at y3 fz6
    rw [← e8] at hcc1 hcc2
    have y4 := fz6 (k * 4 + 3)
    obtain ⟨t6, ff6⟩ := q6.onN (n := NL + 1) (by show _ = (m.L ++ [_]).length; rw [hl6]) hnd6 hk6 m.next
    obtain ⟨W7, hW7⟩ : ∃ W7, (W6.setCell ⟨g5, k * 4 + 3, none⟩ (.int .i64 m.next)).drew = W7 := ⟨_, rfl⟩
    have HW7 : Hid (_ = W7) := hW7
    have t7 := t6.kp (kp_drew _)
    rw [hW7] at t7
    have f7 : Ff TQ B w W7 := by rw [← hW7]; exact (f6.trans ff6).trans (Ff.kp (kp_drew _))
    have y7 := t7.box.at (j := 1) rfl
    have y8 : W7.cell? ⟨r, 2, none⟩ = some (.int .i64 m.now) := t7.box.at (j := 2) rfl
    have y9 := t7.box.fz 2
    obtain ⟨t8, f8⟩ := t7.now m.next
    obtain ⟨W8, hW8⟩ : ∃ W8, W7.setCell ⟨r, 2, none⟩ (.int .i64 m.next) = W8 := ⟨_, rfl⟩
    have HW8 : Hid (_ = W8) := hW8
    rw [hW8] at t8 f8
    have x1 := t8.box.at (j := 1) rfl
    have x0 : W8.cell? ⟨r, 0, none⟩ = some (.int .i64 m.most) := t8.box.at (j := 0) rfl
    have H8 : Hid (Rw B W8.heap.size r (addT m ds) W8 ∧ Ff TQ B w W8) := by
      have e := on_snoc (L := m.L) (x := m.now) (y := m.next) (by have := HI.out.1.lt; omega) m.now (-1) ds m.next
      have t9 := t8
      rw [e] at t9
      have t10 : Rw B _ r (addT m ds) W8 := ⟨_, _, t9⟩
      exact ⟨t10.sized, f7.trans f8⟩
    have hkN1 : k < NL + 1 := by omega
    have hkI : (k : Int) < (NL : Int) + 1 := by omega
    unfold maxLen at hcc2
    rw [show ({ m with next := m.next + 1, L := m.L ++ [⟨m.next, m.now, -1, ds⟩] } : Tr).L.length = NL + 1 from hl6] at hcc1
    clear q6 f6 t6 ff6 t7 f7 t8 f8 hW7 hW8 hnd6 hk6 hs6 e7 e8 fz6 H5 HI HR hl6
    refine wp_region_noPanic ?_
    refine wp_region_held_drew (S := fun z => z.cell? ⟨r, 1, none⟩ = some (.slice (some ⟨g5, 0, none⟩) (NL + 1) cp5) ∧ z.cell? ⟨r, 2, none⟩ = some (.int .i64 m.now)) (by kernel_rfl) (⟨y1, y2⟩) (fun hHeld => ?_)
    refine takeAt 0 (some 34) ?_ rfl rfl (by kernel_rfl) (by kernel_rfl) (by kernel_rfl) (fun _ _ _ h => h) (Or.inl ⟨by rfl, ?_⟩) hHeld ?_
    rotate_left
    · intro w hSw
      go_simp <;> with_reducible rfl
    try simp only [Act.put, List.setIfInBounds_toArray, List.set_cons_zero, List.set_cons_succ]
    refine takeAt 1 (some 35) ?_ rfl rfl (by kernel_rfl) (by kernel_rfl) (by kernel_rfl) (fun _ _ _ h => h) (Or.inl ⟨by rfl, ?_⟩) hHeld ?_
    rotate_left
    · intro w hSw
      go_simp <;> with_reducible rfl
    try simp only [Act.put, List.setIfInBounds_toArray, List.set_cons_zero, List.set_cons_succ]
    refine takeAt 2 (some 36) ?_ rfl rfl (by kernel_rfl) (by kernel_rfl) (by kernel_rfl) (fun _ _ _ h => h) (Or.inl ⟨by rfl, ?_⟩) hHeld ?_
    rotate_left
    · intro w hSw
      go_simp <;> with_reducible rfl
    try simp only [Act.put, List.setIfInBounds_toArray, List.set_cons_zero, List.set_cons_succ]
    refine takeAt 3 (some 37) ?_ rfl rfl (by kernel_rfl) (by kernel_rfl) (by kernel_rfl) (fun _ _ _ h => h) (Or.inl ⟨by rfl, ?_⟩) hHeld ?_
    rotate_left
    · intro w hSw
      go_simp <;> with_reducible rfl
    try simp only [Act.put, List.setIfInBounds_toArray, List.set_cons_zero, List.set_cons_succ]
    refine takeAt 4 (some 38) ?_ rfl rfl (by kernel_rfl) (by kernel_rfl) (by kernel_rfl) (fun _ _ _ h => h) (Or.inl ⟨by rfl, ?_⟩) hHeld ?_
    rotate_left
    · intro w hSw
      go_simp <;> with_reducible rfl
    try simp only [Act.put, List.setIfInBounds_toArray, List.set_cons_zero, List.set_cons_succ]
    refine takeAt 5 (some 39) ?_ rfl rfl (by kernel_rfl) (by kernel_rfl) (by kernel_rfl) (fun _ _ _ h => h) (Or.inl ⟨by rfl, ?_⟩) hHeld ?_
    rotate_left
    · intro w hSw
      go_simp <;> with_reducible rfl
    try simp only [Act.put, List.setIfInBounds_toArray, List.set_cons_zero, List.set_cons_succ]
    refine takeAt 6 (some 40) ?_ rfl rfl (by kernel_rfl) (by kernel_rfl) (by kernel_rfl) (fun _ _ _ h => h) (Or.inl ⟨by rfl, ?_⟩) hHeld ?_
    rotate_left
    · intro w hSw
      go_simp <;> with_reducible rfl
    try simp only [Act.put, List.setIfInBounds_toArray, List.set_cons_zero, List.set_cons_succ]
    refine takeAt 7 (some 41) ?_ rfl rfl (by kernel_rfl) (by kernel_rfl) (by kernel_rfl) (fun _ _ _ h => h) (Or.inl ⟨by rfl, ?_⟩) hHeld ?_
    rotate_left
    · intro w hSw
      go_simp <;> with_reducible rfl
    try simp only [Act.put, List.setIfInBounds_toArray, List.set_cons_zero, List.set_cons_succ]
    refine takeAt 8 (some 42) ?_ rfl rfl (by kernel_rfl) (by kernel_rfl) (by kernel_rfl) (fun _ _ _ h => h) (Or.inl ⟨by rfl, ?_⟩) hHeld ?_
    rotate_left
    · intro w hSw
      go_simp <;> with_reducible rfl
    try simp only [Act.put, List.setIfInBounds_toArray, List.set_cons_zero, List.set_cons_succ]
    refine takeAt 10 (some 44) ?_ rfl rfl (by kernel_rfl) (by kernel_rfl) (by kernel_rfl) (fun _ _ _ h => h) (Or.inl ⟨by rfl, ?_⟩) hHeld ?_
    rotate_left
    · intro w hSw
      go_simp <;> with_reducible rfl
    try simp only [Act.put, List.setIfInBounds_toArray, List.set_cons_zero, List.set_cons_succ]
    refine callAt 9 43 60 (vals := #[.pointer (some ⟨r, 0, none⟩), .int .i64 m.now]) (by kernel_rfl) rfl rfl rfl rfl (by simp [Act.eval]) Try.func60 (by kernel_rfl) (by kernel_rfl) ?_
    refine Calls.mono (HF.out _ (by first | exact Below.refl _ _ | exact kp_drew _)) ?_
    rintro e w7 ⟨rfl, rfl⟩
    refine ⟨_, rfl, hHeld, fun hHeld => ?_⟩
    try simp only [Act.put, List.setIfInBounds_toArray, List.set_cons_zero, List.set_cons_succ]
    refine takeAt 11 (some 45) ?_ rfl rfl (by kernel_rfl) (by kernel_rfl) (by kernel_rfl) (fun _ _ _ h => h) (Or.inl ⟨by rfl, ?_⟩) hHeld ?_
    rotate_left
    · intro w hSw
      go_simp <;> with_reducible rfl
    try simp only [Act.put, List.setIfInBounds_toArray, List.set_cons_zero, List.set_cons_succ]
    refine takeAt 12 (some 46) ?_ rfl rfl (by kernel_rfl) (by kernel_rfl) (by kernel_rfl) (fun _ _ _ h => h) (Or.inl ⟨by rfl, ?_⟩) hHeld ?_
    rotate_left
    · intro w hSw
      go_simp <;> with_reducible rfl
    try simp only [Act.put, List.setIfInBounds_toArray, List.set_cons_zero, List.set_cons_succ]
    refine wpAnyH_ready (rs := [13]) (by kernel_rfl) (by simp) ?_
    refine AllReadyH.cons rfl (fun K hK => ?_) AllReadyH.nil
    go_simp
    refine hK.out _ _ (by rw [HW7.out]; exact ⟨y7, y8⟩) (fun hHeld => ?_)
    clear hK K
    try simp only [Act.put, List.setIfInBounds_toArray, List.set_cons_zero, List.set_cons_succ]
    refine wpAnyH_done (by kernel_rfl) ?_ _
    refine NoPanic.normal ?_
    rw [HW7.out]
    go_upto_region 6 with fail
    rw [HW8.out]
    have IA : Hid (Inw (addT m ds)) := HJ.out.1.add HJ.out.2.2.2.2
    have HA : Hid ((addT m ds).L.length = m.L.length + 1) := by
      show (setOn m.L m.now m.next ++ [_]).length = _
      rw [List.length_append, setOn_len]; rfl
    have H9 : Hid (LooR B r m ds w W8) := .inl H8.out
    clear H8 HW7 HW8
    go_loopw [] (fun wr => Hid (LooR B r m ds w wr)) (fun wr => cntR r wr)
    case atStart => exact H9
    case round =>
      clear H9
      rcases hrel.out with ⟨⟨v7, vs7, t7⟩, hf⟩ | ⟨ho, ⟨v7, vs7, t7⟩, hf⟩
      · have x0 : wr.cell? ⟨r, 0, none⟩ = some (.int .i64 m.most) := t7.box.at (j := 0) rfl
        have x1 := t7.box.at (j := 1) rfl
        have x2 : wr.cell? ⟨r, 2, none⟩ = some (.int .i64 m.now) ∨ True := .inr trivial
        obtain ⟨a7, cc7, e7, _⟩ := owns_form t7.row
        rw [e7] at x1
        have HT7 : Hid (Rb B wr.heap.size r v7 vs7 (addT m ds) wr ∧ Ff TQ B w wr) := ⟨t7, hf⟩
        clear t7 hf hrel e7 x2
        by_cases hov : m.most < ((addT m ds).L.length : Int)
        · have d1 : decide (((addT m ds).L.length : Int) > m.most) = true := decide_eq_true hov
          have d2 : decide (m.most < ((addT m ds).L.length : Int)) = true := decide_eq_true hov
          have HOV : Hid (m.most < ((addT m ds).L.length : Int)) := hov
          have HG : Hid (∀ k, Calls Try.prog 64 #[.pointer (some ⟨r, 0, none⟩)] (wr.drewN k) fun e w' => e = .returned (.tuple #[]) ∧ LooR B r m ds w w' ∧ cntR r w' < cntR r wr) := fun k => by
            have h1 := HA.out
            have h2 := HJ.out.2.2.2.1
            have h3 := HJ.out.2.2.1
            refine (revict_any ⟨_, _, HT7.out.1.kp (kp_drewN _ k)⟩ IA.out (by omega) (by omega) (Nat.le_trans hB (Nat.le_trans HT7.out.2.size (kp_drewN wr k).size))).mono ?_
            rintro e w' ⟨rfl, r1, r2⟩
            refine ⟨rfl, .inr ⟨HOV.out, r1.sized, (HT7.out.2.trans (Ff.kp (kp_drewN _ _))).trans r2⟩, ?_⟩
            rw [cntR_eq ⟨_, _, HT7.out.1⟩, cntR_eq r1]
            have := ev_len IA.out (by omega)
            omega
          clear HT7 hov
          generalize (addT m ds).L.length = K7 at x1 d1 d2
          go_wp2_with fail
          go_quiet (fail)
          go_wp2_with fail
          refine Calls.mono (HG.out _) ?_
          rintro e w9 ⟨rfl, r1, r2⟩
          have H9 : Hid (LooR B r m ds w w9) := r1
          have HM9 : Hid (cntR r w9 < cntR r wr) := r2
          clear HG r1 r2
          go_wp2_with fail
          go_roundw
          case rel => exact H9
          case measure => exact HM9.out
        · have d1 : decide (((addT m ds).L.length : Int) > m.most) = false := decide_eq_false hov
          have d2 : decide (m.most < ((addT m ds).L.length : Int)) = false := decide_eq_false hov
          have HX : Hid (∀ k, Rw B (wr.drewN k).heap.size r (addE m ds) (wr.drewN k) ∧ Ff TQ B w (wr.drewN k)) := fun k => by
            have e1 : addE m ds = addT m ds := by unfold addE; rw [if_neg hov]
            rw [e1]
            exact ⟨(Rw.kp ⟨_, _, HT7.out.1⟩ (kp_drewN _ _)).sized, HT7.out.2.trans (Ff.kp (kp_drewN _ _))⟩
          clear HT7 hov
          generalize (addT m ds).L.length = K7 at x1 d1 d2
          go_wp2_with fail
          go_quiet (fail)
          go_wp2_with fail
          go_ret
          exact ⟨rfl, HX.out _⟩
      · have hpn := ev_now (addT m ds)
        have x0 : wr.cell? ⟨r, 0, none⟩ = some (.int .i64 m.most) := by have := t7.box.at (j := 0) rfl; rw [hpn.2.2] at this; exact this
        have x1 := t7.box.at (j := 1) rfl
        obtain ⟨a7, cc7, e7, _⟩ := owns_form t7.row
        rw [e7] at x1
        have hno : ¬ m.most < ((evT (addT m ds)).L.length : Int) := by
          have := ev_len IA.out (by have := HA.out; have := HJ.out.2.2.2.1; omega)
          have := HA.out
          have := HJ.out.2.2.1
          omega
        have d1 : decide (((evT (addT m ds)).L.length : Int) > m.most) = false := decide_eq_false hno
        have d2 : decide (m.most < ((evT (addT m ds)).L.length : Int)) = false := decide_eq_false hno
        have HX : Hid (∀ k, Rw B (wr.drewN k).heap.size r (addE m ds) (wr.drewN k) ∧ Ff TQ B w (wr.drewN k)) := fun k => by
          have e1 : addE m ds = evT (addT m ds) := by unfold addE; rw [if_pos ho]
          rw [e1]
          exact ⟨(Rw.kp ⟨_, _, t7⟩ (kp_drewN _ _)).sized, hf.trans (Ff.kp (kp_drewN _ _))⟩
        clear t7 hf ho hrel hno hpn e7
        generalize (evT (addT m ds)).L.length = K7 at x1 d1 d2
        go_wp2_with fail
        go_quiet (fail)
        go_wp2_with fail
        go_ret
        exact ⟨rfl, HX.out _⟩
end
end Go.Proofs.Ytbkhhgaihhbhjaa
/- A call on both, whatever room there is. -/
namespace Go.Proofs.Ytbkhhgaihhbhjaa
open Go.ChangeShapes Go.WideShapes Go.ChangeAt Go.RowKit Go.Maps Go.MapKept
set_option linter.unusedVariables false
set_option linter.unusedSimpArgs false
set_option maxRecDepth 100000
section
variable {B C r t : Nat} {m m' : Tr} {w w1 : World}
/-- What a call leaves. -/
structure StpE (m m' : Tr) : Prop where
  nx : m'.next ≤ m.next + 1
  mo : m'.most = m.most
  len : (m'.L.length : Int) ≤ m.most
theorem Kps.stpE (h : Kps m m') (hm : (m.L.length : Int) ≤ m.most) : StpE m m' := ⟨by rw [h.nx]; omega, h.mo, by rw [h.len]; exact hm⟩
theorem stpE_add {ds : List Dl} (I : Inw m) (hf : Few 2000 ds) (hmo : 1 ≤ m.most) (hm : (m.L.length : Int) ≤ m.most) : StpE m (addE m ds) := ⟨by rw [(addE_parts m ds).2.1]; exact Int.le_refl _, (addE_parts m ds).2.2, (addE_len I hf hmo hm).1⟩
def DneE (B t r : Nat) (m : Tr) (w w' : World) : Prop := ∃ C m', Bt B C t r m' w' ∧ StpE m m' ∧ Below B w w'
/-- What is left behind the document's Add. -/
def AftE (B t r : Nat) (m : Tr) (dv : Value) (ds : List Dl) (w w1 : World) : Prop :=
  (∀ b cs, Lc 45 b cs w → Lc 45 b cs w1) ∧ ∀ z, Kp w1 z → Calls Try.prog 46 #[.pointer (some ⟨r, 0, none⟩), dv] z fun e w2 => e = .returned (.int .i64 m.next) ∧ Bt B w2.heap.size t r (addE m ds) w2 ∧ Below B w w2
theorem add_ev (h : Bt B C t r m w) (hmo : 1 ≤ m.most ∧ m.most ≤ 200) (hn : m.next ≤ 8999) (hm : (m.L.length : Int) ≤ m.most) {dv : Value} {ds : List Dl} (hd : DArg B dv ds w) (hf : Few 2000 ds) :
    Calls Try.prog 12 #[.pointer (some ⟨t, 0, none⟩), dv] w fun e w1 => e = .returned (.int .i64 m.next) ∧ AftE B t r m dv ds w w1 := by
  have I := h.inw
  refine (add_any h.tw I (by omega) hm hmo h.hB (okSl B) hd hf).mono ?_
  rintro e w1 ⟨rfl, q1, q2⟩
  refine ⟨rfl, fun b cs hb => hb.ff q2 (fun cur fr q => by rcases q with q | q <;> cases q), fun z kz => ?_⟩
  have hs := q2.size
  have hz := kz.size
  have hB1 : B ≤ w1.heap.size := Nat.le_trans h.hB hs
  refine (radd_any ((h.rw.ff q2).kp kz) I (by omega) hm hmo (Nat.le_trans hB1 hz) (okSl B) ((hd.below (q2.below h.hB)).below (kz.mono hB1)) ?_ ?_ hf).mono ?_
  · intro v ls w w' hx k
    exact hx.fr k fun g hg q => by obtain ⟨q, _⟩ := q; omega
  · intro w w' k hx
    exact DArg.ff hx k
  rintro e w2 ⟨rfl, p1, p2⟩
  have hs2 := p2.size
  have hl := (addE_len I hf hmo.1 hm).1
  have hx := (addE_parts m ds).2.1
  exact ⟨rfl, ⟨((q1.kp kz).ffq p2).up (by omega), p1, addE_inw I hf hmo.1, by omega, Nat.le_refl _, by omega, by omega⟩, ((q2.below h.hB).trans (kz.mono hB1)).trans (p2.below (Nat.le_trans hB1 hz))⟩
set_option maxHeartbeats 16000000 in
theorem does_ev (h : Bt B C t r m w) (hl : 1 ≤ m.most ∧ m.most ≤ 200) (hn : m.next ≤ 8999) (hm : (m.L.length : Int) ≤ m.most) {kd n : Int} (hk0 : 0 ≤ kd) (hk1 : kd < 256) (hr : Rg n) {dv : Value} {ds : List Dl} (hd : DArg B dv ds w) (hf : Few 2000 ds) :
    Calls Try.prog 23 #[.pointer (some ⟨t, 0, none⟩), .pointer (some ⟨r, 0, none⟩), .agg #[.int .u8 kd, .int .i64 n, dv]] w fun e w' => e = .returned (.bool true) ∧ DneE B t r m w w' := by
  have HMM : Hid ((m.L.length : Int) ≤ m.most ∧ (1 ≤ m.most ∧ m.most ≤ 200) ∧ Few 2000 ds ∧ Inw m) := ⟨hm, hl, hf, h.inw⟩
  obtain ⟨W, hW⟩ : ∃ W, W = w.alloc (.cells #[.int .u8 kd, .int .i64 n, dv] 45) := ⟨_, rfl⟩
  have kW : Kp w W := by rw [hW]; exact kp_alloc _ _
  have lW : Lc 45 w.heap.size [.int .u8 kd, .int .i64 n, dv] W := by rw [hW]; exact Lc.new _ _ _
  have HB : Hid (Bt B C t r m W) := h.kp kW
  have HL : Hid (Lc 45 w.heap.size [.int .u8 kd, .int .i64 n, dv] W ∧ Kp w W ∧ DArg B dv ds W ∧ Few 2000 ds ∧ (1 ≤ m.most ∧ m.most ≤ 200) ∧ m.next ≤ 8999 ∧ (m.L.length : Int) ≤ m.most ∧ B ≤ w.heap.size) := ⟨lW, kW, hd.below (kW.mono h.hB), hf, hl, hn, hm, h.hB⟩
  have HW : Hid (W = w.alloc (.cells #[.int .u8 kd, .int .i64 n, dv] 45)) := hW
  have b0 := lW.at (j := 0) rfl
  have b1 := lW.at (j := 1) rfl
  have b2 := lW.at (j := 2) rfl
  obtain ⟨da, dn, dc, rfl⟩ : ∃ a n c, dv = .slice a n c := by obtain ⟨a, c, q, _⟩ := hd.form; exact ⟨a, _, c, q⟩
  clear h hl hn hm hd hf kW lW hW
  go_enter Try.func23, Try.ntmps23
  go_upto_region 1 with fail
  rw [← HW.out]
  clear HW
  rcases (by omega : kd % 9 = 3 ∨ kd % 9 = 4 ∨ kd % 9 = 5 ∨ kd % 9 = 6 ∨ kd % 9 = 7 ∨ kd % 9 = 8 ∨ kd % 9 < 3) with q | q | q | q | q | q | q
  · have d3 : (kd % 9 == 3) = true := by rw [q]; rfl
    have H1 : Hid _ := undo_both HB.out
    clear HB q
    go_wp2_with fail
    refine Calls.mono H1.out ?_
    rintro e w1 ⟨v1, err, rfl, he0, he1, hbx, hc⟩
    have HC : Hid _ := hc
    have lx := hbx _ _ HL.out.1
    have bb0 := lx.at (j := 0) rfl
    have bb1 := lx.at (j := 1) rfl
    have dE : (err == err) = true := beq_self_eq_true _
    clear H1 hc hbx lx
    go_wp2_with fail
    refine Calls.mono HC.out ?_
    rintro e w2 ⟨u1, rfl, al, m1, kps, bt, bl⟩
    have HS : Hid _ := same_alike al
    have H2 : Hid (Bt B C t r m1 w2 ∧ Kps m m1 ∧ Below B W w2) := ⟨bt, kps, bl⟩
    clear HC al bt kps bl
    go_wp2_with fail
    refine Calls.mono HS.out ?_
    rintro e w3 ⟨rfl, q3, rfl⟩
    clear HS
    go_wp2_with fail
    go_ret
    exact ⟨rfl, C, m1, H2.out.1.kp (kp_drewN _ _), H2.out.2.1.stpE HMM.out.1, ((HL.out.2.1.mono HL.out.2.2.2.2.2.2.2).trans H2.out.2.2).trans ((kp_drewN _ _).mono H2.out.1.hB)⟩
  · have d3 : (kd % 9 == 3) = false := by rw [q]; rfl
    have d4 : (kd % 9 == 4) = true := by rw [q]; rfl
    have H1 : Hid _ := redo_both HB.out
    clear HB q
    go_wp2_with fail
    refine Calls.mono H1.out ?_
    rintro e w1 ⟨v1, err, rfl, he0, he1, hbx, hc⟩
    have HC : Hid _ := hc
    have lx := hbx _ _ HL.out.1
    have bb0 := lx.at (j := 0) rfl
    have bb1 := lx.at (j := 1) rfl
    have dE : (err == err) = true := beq_self_eq_true _
    clear H1 hc hbx lx
    go_wp2_with fail
    refine Calls.mono HC.out ?_
    rintro e w2 ⟨u1, rfl, al, m1, kps, bt, bl⟩
    have HS : Hid _ := same_alike al
    have H2 : Hid (Bt B C t r m1 w2 ∧ Kps m m1 ∧ Below B W w2) := ⟨bt, kps, bl⟩
    clear HC al bt kps bl
    go_wp2_with fail
    refine Calls.mono HS.out ?_
    rintro e w3 ⟨rfl, q3, rfl⟩
    clear HS
    go_wp2_with fail
    go_ret
    exact ⟨rfl, C, m1, H2.out.1.kp (kp_drewN _ _), H2.out.2.1.stpE HMM.out.1, ((HL.out.2.1.mono HL.out.2.2.2.2.2.2.2).trans H2.out.2.2).trans ((kp_drewN _ _).mono H2.out.1.hB)⟩
  · have d3 : (kd % 9 == 3) = false := by rw [q]; rfl
    have d4 : (kd % 9 == 4) = false := by rw [q]; rfl
    have d5 : (kd % 9 == 5) = true := by rw [q]; rfl
    have H1 : Hid _ := go_both HB.out hr
    clear HB q
    go_wp2_with fail
    refine Calls.mono H1.out ?_
    rintro e w1 ⟨v1, err, rfl, he0, he1, hbx, hc⟩
    have HC : Hid _ := hc
    have lx := hbx _ _ HL.out.1
    have bb0 := lx.at (j := 0) rfl
    have bb1 := lx.at (j := 1) rfl
    have dE : (err == err) = true := beq_self_eq_true _
    clear H1 hc hbx lx
    go_wp2_with fail
    refine Calls.mono HC.out ?_
    rintro e w2 ⟨u1, rfl, al, m1, kps, bt, bl⟩
    have HS : Hid _ := same_alike al
    have H2 : Hid (Bt B C t r m1 w2 ∧ Kps m m1 ∧ Below B W w2) := ⟨bt, kps, bl⟩
    clear HC al bt kps bl
    go_wp2_with fail
    refine Calls.mono HS.out ?_
    rintro e w3 ⟨rfl, q3, rfl⟩
    clear HS
    go_wp2_with fail
    go_ret
    exact ⟨rfl, C, m1, H2.out.1.kp (kp_drewN _ _), H2.out.2.1.stpE HMM.out.1, ((HL.out.2.1.mono HL.out.2.2.2.2.2.2.2).trans H2.out.2.2).trans ((kp_drewN _ _).mono H2.out.1.hB)⟩
  · have d3 : (kd % 9 == 3) = false := by rw [q]; rfl
    have d4 : (kd % 9 == 4) = false := by rw [q]; rfl
    have d5 : (kd % 9 == 5) = false := by rw [q]; rfl
    have d6 : (kd % 9 == 6) = true := by rw [q]; rfl
    have H1 : Hid _ := earlier_both HB.out n
    clear HB q
    go_wp2_with fail
    refine Calls.mono H1.out ?_
    rintro e w1 ⟨v1, err, rfl, he0, he1, hbx, hc⟩
    have HC : Hid _ := hc
    have lx := hbx _ _ HL.out.1
    have bb0 := lx.at (j := 0) rfl
    have bb1 := lx.at (j := 1) rfl
    have dE : (err == err) = true := beq_self_eq_true _
    clear H1 hc hbx lx
    go_wp2_with fail
    refine Calls.mono HC.out ?_
    rintro e w2 ⟨u1, rfl, al, m1, kps, bt, bl⟩
    have HS : Hid _ := same_alike al
    have H2 : Hid (Bt B C t r m1 w2 ∧ Kps m m1 ∧ Below B W w2) := ⟨bt, kps, bl⟩
    clear HC al bt kps bl
    go_wp2_with fail
    refine Calls.mono HS.out ?_
    rintro e w3 ⟨rfl, q3, rfl⟩
    clear HS
    go_wp2_with fail
    go_ret
    exact ⟨rfl, C, m1, H2.out.1.kp (kp_drewN _ _), H2.out.2.1.stpE HMM.out.1, ((HL.out.2.1.mono HL.out.2.2.2.2.2.2.2).trans H2.out.2.2).trans ((kp_drewN _ _).mono H2.out.1.hB)⟩
  · have d3 : (kd % 9 == 3) = false := by rw [q]; rfl
    have d4 : (kd % 9 == 4) = false := by rw [q]; rfl
    have d5 : (kd % 9 == 5) = false := by rw [q]; rfl
    have d6 : (kd % 9 == 6) = false := by rw [q]; rfl
    have d7 : (kd % 9 == 7) = true := by rw [q]; rfl
    have H1 : Hid _ := later_both HB.out n
    clear HB q
    go_wp2_with fail
    refine Calls.mono H1.out ?_
    rintro e w1 ⟨v1, err, rfl, he0, he1, hbx, hc⟩
    have HC : Hid _ := hc
    have lx := hbx _ _ HL.out.1
    have bb0 := lx.at (j := 0) rfl
    have bb1 := lx.at (j := 1) rfl
    have dE : (err == err) = true := beq_self_eq_true _
    clear H1 hc hbx lx
    go_wp2_with fail
    refine Calls.mono HC.out ?_
    rintro e w2 ⟨u1, rfl, al, m1, kps, bt, bl⟩
    have HS : Hid _ := same_alike al
    have H2 : Hid (Bt B C t r m1 w2 ∧ Kps m m1 ∧ Below B W w2) := ⟨bt, kps, bl⟩
    clear HC al bt kps bl
    go_wp2_with fail
    refine Calls.mono HS.out ?_
    rintro e w3 ⟨rfl, q3, rfl⟩
    clear HS
    go_wp2_with fail
    go_ret
    exact ⟨rfl, C, m1, H2.out.1.kp (kp_drewN _ _), H2.out.2.1.stpE HMM.out.1, ((HL.out.2.1.mono HL.out.2.2.2.2.2.2.2).trans H2.out.2.2).trans ((kp_drewN _ _).mono H2.out.1.hB)⟩
  · have d3 : (kd % 9 == 3) = false := by rw [q]; rfl
    have d4 : (kd % 9 == 4) = false := by rw [q]; rfl
    have d5 : (kd % 9 == 5) = false := by rw [q]; rfl
    have d6 : (kd % 9 == 6) = false := by rw [q]; rfl
    have d7 : (kd % 9 == 7) = false := by rw [q]; rfl
    have d8 : (kd % 9 == 8) = true := by rw [q]; rfl
    have hx0 : 0 ≤ m.next := by have := HB.out.inw.inv.lt; omega
    have hx1 : m.next ≤ 8999 := HL.out.2.2.2.2.2.1
    have cN : W.cell? ⟨r, 3, none⟩ = some (.int .i64 m.next) := by obtain ⟨v, vs, h⟩ := HB.out.rw; exact h.box.at (j := 3) rfl
    clear q
    go_upto_region 22 with fail
    go_quiet (fail)
    have hkp := kp_drewN W nq
    generalize W.drewN nq = W1 at hkp ⊢
    generalize hx : max n 0 % (m.next + 1) = x
    have hxr : Rg x := by
      have h1 := Int.emod_nonneg (max n 0) (b := m.next + 1) (by omega)
      have h2 := Int.emod_lt_of_pos (max n 0) (b := m.next + 1) (by omega)
      exact rg_of ⟨by omega, by omega⟩
    have H1 : Hid _ := go_both (HB.out.kp hkp) hxr
    have HL1 : Hid (Lc 45 w.heap.size [.int .u8 kd, .int .i64 n, .slice da dn dc] W1 ∧ Kp w W1 ∧ B ≤ w.heap.size) := ⟨HL.out.1.kp hkp, kp_trans HL.out.2.1 hkp, HL.out.2.2.2.2.2.2.2⟩
    clear HB HL hx hxr hkp b0 b1 b2 cN
    go_wp2_with fail
    refine Calls.mono H1.out ?_
    rintro e w1 ⟨v1, err, rfl, he0, he1, hbx, hc⟩
    have HC : Hid _ := hc
    have lx := hbx _ _ HL1.out.1
    have bb0 := lx.at (j := 0) rfl
    have bb1 := lx.at (j := 1) rfl
    have dE : (err == err) = true := beq_self_eq_true _
    clear H1 hc hbx lx
    go_wp2_with fail
    refine Calls.mono HC.out ?_
    rintro e w2 ⟨u1, rfl, al, m1, kps, bt, bl⟩
    have HS : Hid _ := same_alike al
    have H2 : Hid (Bt B C t r m1 w2 ∧ Kps m m1 ∧ Below B W1 w2) := ⟨bt, kps, bl⟩
    clear HC al bt kps bl
    go_wp2_with fail
    refine Calls.mono HS.out ?_
    rintro e w3 ⟨rfl, q3, rfl⟩
    clear HS
    go_wp2_with fail
    go_ret
    exact ⟨rfl, C, m1, H2.out.1.kp (kp_drewN _ _), H2.out.2.1.stpE HMM.out.1, ((HL1.out.2.1.mono HL1.out.2.2).trans H2.out.2.2).trans ((kp_drewN _ _).mono H2.out.1.hB)⟩
  · have d3 : (kd % 9 == 3) = false := beq_eq_false_iff_ne.2 (by omega)
    have d4 : (kd % 9 == 4) = false := beq_eq_false_iff_ne.2 (by omega)
    have d5 : (kd % 9 == 5) = false := beq_eq_false_iff_ne.2 (by omega)
    have d6 : (kd % 9 == 6) = false := beq_eq_false_iff_ne.2 (by omega)
    have d7 : (kd % 9 == 7) = false := beq_eq_false_iff_ne.2 (by omega)
    have d8 : (kd % 9 == 8) = false := beq_eq_false_iff_ne.2 (by omega)
    have H1 : Hid _ := add_ev (HB.out.kp (kp_drew W)) HL.out.2.2.2.2.1 HL.out.2.2.2.2.2.1 HL.out.2.2.2.2.2.2.1 (HL.out.2.2.1.below ((kp_drew W).mono HB.out.hB)) HL.out.2.2.2.1
    have HK : Hid (Kp w W.drew ∧ B ≤ w.heap.size ∧ Lc 45 w.heap.size [.int .u8 kd, .int .i64 n, .slice da dn dc] W.drew ∧ Few 2000 ds ∧ Inv m) := ⟨kp_trans HL.out.2.1 (kp_drew W), HL.out.2.2.2.2.2.2.2, HL.out.1.kp (kp_drew W), HL.out.2.2.2.1, HB.out.inw.inv⟩
    have dN : (m.next == m.next) = true := beq_self_eq_true _
    clear q HB
    go_upto_region 5 with fail
    go_region_with (first | (go_at_call 12; refine Calls.mono H1.out ?_; rintro e w1 ⟨rfl, hbx, hc⟩; have bb2 := (hbx _ _ HK.out.2.2.1).at (j := 2) rfl; have HC : Hid _ := hc; clear hbx hc) | (go_at_call 46; refine Calls.mono (HC.out _ (Below.refl _ _)) ?_; rintro e w2 ⟨rfl, bt, bl⟩; have H2 : Hid _ := And.intro bt bl; clear bt bl HC) | (go_at_call 46; refine Calls.mono (HC.out _ (kp_drew _)) ?_; rintro e w2 ⟨rfl, bt, bl⟩; have H2 : Hid _ := And.intro bt bl; clear bt bl HC))
    all_goals
      go_wp2_with fail
      go_ret
      exact ⟨rfl, _, _, H2.out.1, stpE_add HMM.out.2.2.2 HMM.out.2.2.1 HMM.out.2.1.1 HMM.out.1, (HK.out.1.mono HK.out.2.1).trans H2.out.2⟩
end
end Go.Proofs.Ytbkhhgaihhbhjaa
/- heavy. -/
namespace Go.Proofs.Ytbkhhgaihhbhjaa
open Go.ChangeShapes Go.WideShapes Go.ChangeAt Go.RowKit
set_option linter.unusedVariables false
set_option linter.unusedSimpArgs false
set_option maxRecDepth 100000
/-- Calls that can be read. -/
def OpQ (v : Value) (l : List Op12) (w : World) : Prop :=
  ∃ a cap, v = .slice a l.length cap ∧ l.length ≤ cap ∧ cap ≤ maxLen ∧ ∀ (i : Nat) (o : Op12), l[i]? = some o → ∃ g off, a = some ⟨g, off, none⟩ ∧ w.cell? ⟨g, off + i * 3 + 2, none⟩ = some o.v ∧ ∃ D, DArg D o.v o.ds w
theorem OpL.q {B : Nat} {v : Value} {l : List Op12} {w : World} (h : OpL B v l w) : OpQ v l w := by
  obtain ⟨a, cap, rfl, h1, h2, h3⟩ := h
  refine ⟨a, cap, rfl, h1, h2, fun i o hi => ?_⟩
  obtain ⟨g, off, e, _, _, _, c, d⟩ := h3 i o hi
  exact ⟨g, off, e, c, B, d⟩
def hvO (l : List Op12) : Bool := decide (120 < l.length) || decide (2000 < wO l)
def wE (ds : List Dl) : Nat := (ds.map fun d => d.old.length + d.nw.length).sum
theorem wD_wE (ds : List Dl) : (ds.map wD).sum = ds.length + wE ds := by
  induction ds with
  | nil => rfl
  | cons d r ih => simp only [List.map_cons, List.sum_cons, List.length_cons, wE, wD] at *; omega
theorem wE_take {ds : List Dl} {k : Nat} {d : Dl} (h : ds[k]? = some d) : wE (ds.take (k + 1)) = wE (ds.take k) + (d.old.length + d.nw.length) := by
  rw [take_snoc ds h]; simp [wE]
theorem wE_app (a b : List Dl) : wE (a ++ b) = wE a + wE b := by unfold wE; rw [List.map_append, List.sum_append]
theorem wE_le (ds : List Dl) (k : Nat) : wE (ds.take k) ≤ wE ds := by
  have h := wE_app (ds.take k) (ds.drop k)
  rw [List.take_append_drop] at h
  omega
theorem wO_take {l : List Op12} {i : Nat} {o : Op12} (h : l[i]? = some o) : wO (l.take (i + 1)) = wO (l.take i) + (o.ds.length + wE o.ds) := by
  rw [take_snoc l h, ← wD_wE]; simp [wO]
theorem wO_app (a b : List Op12) : wO (a ++ b) = wO a + wO b := by unfold wO; rw [List.map_append, List.sum_append]
theorem wO_le (l : List Op12) (k : Nat) : wO (l.take k) ≤ wO l := by
  have h := wO_app (l.take k) (l.drop k)
  rw [List.take_append_drop] at h
  omega
set_option maxHeartbeats 8000000 in
theorem heavy_any {v : Value} {l : List Op12} {w : World} (h : OpQ v l w) (hb : wO l ≤ 1000000000) :
    Calls Try.prog 21 #[v] w fun e w' => e = .returned (.bool (hvO l)) ∧ ∃ k, w' = w.drewN k := by
  obtain ⟨a, cap, rfl, h1, h2, h3⟩ := h
  obtain ⟨N, hN⟩ : ∃ N, l.length = N := ⟨_, rfl⟩
  have HL : Hid (l.length = N) := hN
  have HH : Hid (∀ (i : Nat) (o : Op12), l[i]? = some o → ∃ g off, a = some ⟨g, off, none⟩ ∧ w.cell? ⟨g, off + i * 3 + 2, none⟩ = some o.v ∧ ∃ D, DArg D o.v o.ds w) := h3
  have HB : Hid (wO l ≤ 1000000000) := hb
  rw [hN] at h1 ⊢
  unfold maxLen at h2
  have hN9 : N ≤ 9223372036854775807 := by omega
  clear h3 hN hb h1 h2
  by_cases q : 120 < N
  · have d1 : decide ((N : Int) > 120) = true := decide_eq_true (by omega)
    have d2 : decide ((120 : Int) < (N : Int)) = true := decide_eq_true (by omega)
    have HE : Hid (hvO l = true) := by show hvO l = true; unfold hvO; rw [HL.out, decide_eq_true q]; rfl
    go_enter Try.func21, Try.ntmps21
    go_wp2_with fail
    go_ret
    exact ⟨by rw [HE.out]; rfl, 0, rfl⟩
  · have d1 : decide ((N : Int) > 120) = false := decide_eq_false (by omega)
    have d2 : decide ((120 : Int) < (N : Int)) = false := decide_eq_false (by omega)
    have HE : Hid (hvO l = decide (2000 < wO l)) := by show hvO l = _; unfold hvO; rw [HL.out, decide_eq_false q, Bool.false_or]
    go_enter Try.func21, Try.ntmps21
    go_wp2_with fail
    go_loopw [3, 4, 5] (fun v3 v4 _ wr => ∃ (i m k : Nat), i ≤ N ∧ v4 = .int .i64 i ∧ v3 = .int .i64 m ∧ m ≤ 1000000000 ∧ wr = w.drewN k ∧ Hid (wO (l.take i) = m)) (fun _ v4 _ _ => N - (intOf v4).toNat)
    case atStart => exact ⟨0, 0, 0, Nat.zero_le _, rfl, rfl, by omega, rfl, rfl⟩
    case round =>
      obtain ⟨i, m, k, hi, rfl, rfl, hm, rfl, HM⟩ := hrel
      by_cases p : i < N
      · have d3 : decide ((i : Int) < (N : Int)) = true := decide_eq_true (by omega)
        have d4 : decide (i < N) = true := decide_eq_true (by omega)
        obtain ⟨o, ho⟩ : ∃ o, l[i]? = some o := ⟨_, List.getElem?_eq_getElem (by rw [HL.out]; exact p)⟩
        obtain ⟨g, off, rfl, c0, D, hd⟩ := HH.out i o ho
        obtain ⟨b, cp, hv, _⟩ := hd.form
        have ht := wO_take ho
        have hle := wO_le l (i + 1)
        obtain ⟨K, hK⟩ : ∃ K, o.ds.length = K := ⟨_, rfl⟩
        have HK : Hid (o.ds.length = K ∧ wO (l.take (i + 1)) = m + (K + wE o.ds) ∧ m + (K + wE o.ds) ≤ 1000000000) := ⟨hK, by rw [ht, HM.out, hK], by have := HB.out; have := HM.out; omega⟩
        rw [hv, hK] at c0
        have HD : Hid (DArg D (.slice b K cp) o.ds w) := by rw [hv, hK] at hd; exact hd
        have hKm : m + K ≤ 1000000000 := by have := HK.out.2.2; omega
        clear ht hle hK hd hv HM ho
        go_wp2_with fail
        go_loopw [3, 5] (fun v3 v5 wr => ∃ (j s k : Nat), j ≤ K ∧ v5 = .int .i64 j ∧ v3 = .int .i64 s ∧ s ≤ 1000000000 ∧ wr = w.drewN k ∧ Hid (m + K + wE (o.ds.take j) = s)) (fun _ v5 _ => K - (intOf v5).toNat)
        case atStart => exact ⟨0, m + K, k, Nat.zero_le _, rfl, by go_num, by omega, rfl, rfl⟩
        case round =>
          obtain ⟨j, s, k2, hj, rfl, rfl, hs, rfl, HS⟩ := hrel
          by_cases p2 : j < K
          · have d5 : decide ((j : Int) < (K : Int)) = true := decide_eq_true (by omega)
            have d6 : decide (j < K) = true := decide_eq_true (by omega)
            obtain ⟨d, hd⟩ : ∃ d, o.ds[j]? = some d := ⟨_, List.getElem?_eq_getElem (by rw [HK.out.1]; exact p2)⟩
            obtain ⟨g2, o2, x, y, rfl, _, _, c1, c2, x1, x2⟩ := HD.out.at_ hd
            obtain ⟨xa, xc, rfl, _⟩ := x1.form
            obtain ⟨ya, yc, rfl, _⟩ := x2.form
            have ht := wE_take hd
            have hle := wE_le o.ds (j + 1)
            obtain ⟨X1, hX1⟩ : ∃ X, d.old.length = X := ⟨_, rfl⟩
            obtain ⟨Y1, hY1⟩ : ∃ X, d.nw.length = X := ⟨_, rfl⟩
            rw [hX1] at c1 ht
            rw [hY1] at c2 ht
            have HQ : Hid (m + K + wE (o.ds.take (j + 1)) = s + (X1 + Y1)) := by have := HS.out; show _ = _; omega
            have hsm : s + (X1 + Y1) ≤ 1000000000 := by have := HQ.out; have := HK.out.2.2; omega
            clear hd x1 x2 ht hle hX1 hY1 HS
            go_wp2_with fail
            go_quiet (fail)
            go_wp2_with fail
            go_roundw
            case rel => exact ⟨j + 1, s + (X1 + Y1), _, by omega, by go_num, by go_num, hsm, rfl, HQ.out⟩
            case measure => simp only [intOf]; omega
          · obtain rfl : j = K := by omega
            have d5 : decide ((j : Int) < (j : Int)) = false := by simp
            have HQ : Hid (wO (l.take (i + 1)) = s) := by
              have h1 := HS.out
              rw [List.take_of_length_le (by rw [HK.out.1]; exact Nat.le_refl _)] at h1
              show _ = _
              rw [HK.out.2.1]; omega
            clear HS
            go_wp2_with fail
            go_roundw
            case rel => exact ⟨i + 1, s, _, by omega, by go_num, rfl, hs, rfl, HQ.out⟩
            case measure => simp only [intOf]; omega
      · obtain rfl : i = N := by omega
        have d3 : decide ((i : Int) < (i : Int)) = false := by simp
        have hmm : m = wO l := by have h1 := HM.out; rw [List.take_of_length_le (by rw [HL.out]; exact Nat.le_refl _)] at h1; exact h1.symm
        have HX : Hid (hvO l = decide ((m : Int) > 2000)) := by
          show hvO l = _
          rw [HE.out, hmm]
          by_cases z : 2000 < wO l
          · rw [decide_eq_true z, decide_eq_true (by omega)]
          · rw [decide_eq_false z, decide_eq_false (by omega)]
        clear HM hmm
        go_wp2_with fail
        go_ret
        exact ⟨by rw [HX.out]; rfl, k, rfl⟩
end Go.Proofs.Ytbkhhgaihhbhjaa
/- UndoBack, walked. -/
namespace Go.Proofs.Ytbkhhgaihhbhjaa
open Go.ChangeShapes Go.WideShapes Go.ChangeAt Go.RowKit Go.Maps Go.MapKept
set_option linter.unusedVariables false
set_option linter.unusedSimpArgs false
set_option maxRecDepth 100000
theorem Tw.low {B B' C t : Nat} {m : Tr} {w : World} (h : Tw B C t m w) (hB : B' ≤ B) : Tw B' C t m w := by
  obtain ⟨b, q, h⟩ := h
  exact ⟨b, q, Nat.le_trans hB h.lt, Nat.le_trans hB h.lb, h.box, h.map, fun x s hx => by obtain ⟨h1, h2⟩ := h.st x s hx; exact ⟨Nat.le_trans hB h1, h2⟩, h.inj⟩
theorem Rw.low {B B' C r : Nat} {m : Tr} {w : World} (h : Rw B C r m w) (hB : B' ≤ B) : Rw B' C r m w := by
  obtain ⟨v, vs, h⟩ := h
  exact ⟨v, vs, Nat.le_trans hB h.lr, h.box, row_lift h.row fun j hj => Nat.le_trans hB (h.row.lt j hj).1, h.bys⟩
theorem sum_mem {α : Type} (f : α → Nat) {x : α} : ∀ {l : List α}, x ∈ l → f x ≤ (l.map f).sum
  | y :: l, h => by
    rcases List.mem_cons.1 h with rfl | h
    · simp
    · have := sum_mem f h; simp; omega
theorem len_wD (ds : List Dl) : ds.length ≤ (ds.map wD).sum := by
  induction ds with
  | nil => simp
  | cons d l ih => simp only [List.length_cons, List.map_cons, List.sum_cons, wD]; omega
theorem few_wD {ds : List Dl} (h : (ds.map wD).sum ≤ 2000) : Few 2000 ds := ⟨by have := len_wD ds; omega, fun d hd => by
  have := sum_mem wD hd
  unfold wD at this h
  exact ⟨by omega, by omega⟩⟩
theorem few_wO {l : List Op12} (h : hvO l = false) {o : Op12} (ho : o ∈ l) : Few 2000 o.ds := by
  unfold hvO at h
  simp only [Bool.or_eq_false_iff, decide_eq_false_iff_not] at h
  have := sum_mem (fun o : Op12 => (o.ds.map wD).sum) ho
  unfold wO at h
  exact few_wD (by omega)
theorem len_hv {l : List Op12} (h : hvO l = false) : l.length ≤ 120 := by
  unfold hvO at h
  simp only [Bool.or_eq_false_iff, decide_eq_false_iff_not] at h
  omega
/-- Where the loop stands. -/
def Lp (B t r i : Nat) (W w : World) : Prop := ∃ C m, Bt B C t r m w ∧ m.most = 200 ∧ m.L.length ≤ 1 + i ∧ m.next ≤ 1 + i ∧ Rt0 m.L ∧ Below B W w
theorem lp_first {W w w1 w2 : World} {t r : Nat} (k : Kp W w) (h1 : Tw w.heap.size w.heap.size t (first 200) w1) (k1 : Kp w w1) (h2 : Rw w1.heap.size w1.heap.size r (first 200) w2) (k2 : Kp w1 w2) : Lp W.heap.size t r 0 W w2 := by
  have s0 := k.size
  have s1 := k1.size
  have s2 := k2.size
  refine ⟨w1.heap.size, first 200, ⟨((h1.kp k2).low s0).up s1, h2.low (by omega), inw_first 200, by omega, s2, by decide, by decide⟩, rfl, by decide, by decide, ⟨_, rfl, rfl⟩, kp_trans (kp_trans k k1) k2⟩
theorem lp_step {W w w' : World} {B t r i : Nat} {m : Tr} (h1 : m.most = 200) (h2 : m.L.length ≤ 1 + i) (h3 : m.next ≤ 1 + i) (h4 : Rt0 m.L) (hb : Below B W w) (h : Dne B t r m w w') : Lp B t r (i + 1) W w' := by
  obtain ⟨C, m', q1, q2, q3⟩ := h
  exact ⟨C, m', q1, q2.mo.trans h1, by have := q2.len; omega, by have := q2.nx; omega, q2.rt h4, hb.trans q3⟩
end Go.Proofs.Ytbkhhgaihhbhjaa
/- The document's States. -/
namespace Go.Proofs.Ytbkhhgaihhbhjaa
open Go.ChangeShapes Go.WideShapes Go.ChangeAt Go.RowKit Go.Maps Go.MapKept
set_option linter.unusedVariables false
set_option linter.unusedSimpArgs false
set_option maxRecDepth 100000
theorem step_st {B n : Nat} {cs : List Value} {x1 x2 : Int} {v : Value} {w : World} {ops : Array Oper} {o : Oper} {ac : Act} {K : Act → World → Prop} {Q : Exit → Act → World → Prop} {E : Prop} (hgd : o.guard = none) (s x : Operand) (ho : o.op = .call { callee := .builtin .append, args := #[s, x], argTypes := #[51, 51] })
    (hs : ac.eval s = v) (r1 : w.ownsRow B 64 2 v n cs) {b : Nat} (hx : ac.eval x = .slice (some ⟨b, 0, none⟩) 1 1) (hb : Lc 64 b [.int .i64 x1, .int .i64 x2] w) (hl : n ≤ 1000000) (hB : B ≤ w.heap.size)
    (k : ∀ a' c' w', w'.ownsRow B 64 2 (.slice a' (n + 1) c') (n + 1) (cs ++ [.int .i64 x1, .int .i64 x2]) → w.grownBy w' v.ownBlock → Below B w w' → K (ac.put o.dst (.slice a' (n + 1) c')) w') : if Region.wanted o (yielded ops ac.tmps) = true then Oper.wp Try.prog o ac w K Q else E := by
  obtain ⟨i9, hi9, z0, z1, z2⟩ := info_parts infoAS
  have hw : Region.wanted o (yielded ops ac.tmps) = true := by simp [Region.wanted, hgd]
  rw [if_pos hw]
  refine wp_append_own w s x 51 ho B 64 i9 _ 2 16 Try.underlying51 hi9 z0 z1 z2 rfl (by decide) v n cs hs r1 ⟨b, 0, none⟩ 1 1 [.int .i64 x1, .int .i64 x2] hx rfl (fun j u hj => ?_) (by simp [Value.oneCell']) (by unfold maxLen; omega) (by omega) hB ?_
  · rw [addr_add]; exact hb.at hj
  intro v' w' q1 q2 _
  obtain ⟨a', c', rfl, q3, q4⟩ := owns_form q1
  exact k a' c' w' q1 q2 (below_grown r1 hB q2)
section
variable {B C r : Nat} {m : Tr} {w w1 : World}
set_option maxHeartbeats 8000000 in
theorem rstates_any (h : Rw B C r m w) (hl : m.L.length ≤ 250) :
    Calls Try.prog 26 #[.pointer (some ⟨r, 0, none⟩)] w fun e w' => ∃ v, e = .returned v ∧ Sr w.heap.size v m.L w' ∧ Kp w w' := by
  obtain ⟨v, vs, h⟩ := h
  have b1 := h.box.at (j := 1) rfl
  obtain ⟨a, cap, rfl, hc1, hc2⟩ : ∃ a c, v = .slice a m.L.length c ∧ m.L.length ≤ c ∧ c ≤ maxLen := by obtain ⟨a, c, e, q1, q2⟩ := owns_form h.row; exact ⟨a, c, e, q1, q2⟩
  have hr0 : r < w.heap.size := World.block_lt_of_cell? _ _ b1
  have HH : Hid (Rb B C r (.slice a m.L.length cap) vs m w) := h
  obtain ⟨N, hN⟩ : ∃ N, m.L.length = N := ⟨_, rfl⟩
  have HL : Hid (m.L.length = N) := hN
  unfold maxLen at hc2
  rw [hN] at hl b1 hc1
  have HB1 : Hid (w.cell? ⟨r, 1, none⟩ = some (.slice a N cap)) := b1
  clear h hN b1
  go_enter Try.func26, Try.ntmps26
  go_wp2_with fail
  go_loopw [3, 4] (fun v3 v4 wr => ∃ (i : Nat) (a' : Option Addr) (c' : Nat), i ≤ N ∧ v4 = .int .i64 i ∧ v3 = .slice a' i c' ∧ Hid (wr.ownsRow w.heap.size 64 2 (.slice a' i c') i (flatS (m.L.take i)) ∧ Kp w wr)) (fun _ v4 _ => N - (intOf v4).toNat)
  case atStart => exact ⟨0, none, 0, Nat.zero_le _, by go_num, rfl, ⟨rfl, .inl ⟨rfl, rfl⟩⟩, Below.refl _ _⟩
  case round =>
    obtain ⟨i, a', c', hi, rfl, rfl, HI⟩ := hrel
    have y1 := kp_cell HI.out.2 HB1.out
    by_cases q : i < N
    · have d1 : decide ((i : Int) < (N : Int)) = true := decide_eq_true (by omega)
      have d2 : decide (i < N) = true := decide_eq_true (by omega)
      obtain ⟨s, hsi⟩ : ∃ s, m.L[i]? = some s := ⟨_, List.getElem?_eq_getElem (by rw [HL.out]; exact q)⟩
      obtain ⟨g, c, u, e, _, _, _, hu, q0, q1, _, _, _⟩ := HH.out.cell hsi
      cases e
      have hg0 : g < w.heap.size := World.block_lt_of_cell? _ _ q0
      have y2 := kp_cell HI.out.2 q0
      have y3 := kp_cell HI.out.2 q1
      have HS : Hid (m.L.take (i + 1) = m.L.take i ++ [s]) := take_snoc m.L hsi
      obtain ⟨sq, hsq⟩ : ∃ x, s.seq = x := ⟨_, rfl⟩
      obtain ⟨sf, hsf⟩ : ∃ x, s.fr = x := ⟨_, rfl⟩
      have HQ : Hid (flatS [s] = [.int .i64 sq, .int .i64 sf]) := by show flatS [s] = _; rw [← hsq, ← hsf]; rfl
      rw [hsq] at y2
      rw [hsf] at y3
      clear hsi hu q0 q1 hsq hsf
      go_upto_region 5 with fail
      refine wp_region_noPanic ?_
      refine wp_region_held_drew (S := fun z => z.cell? ⟨r, 1, none⟩ = some (.slice (some ⟨g, 0, none⟩) N cap) ∧ z.cell? ⟨g, i * 4, none⟩ = some (.int .i64 sq) ∧ z.cell? ⟨g, i * 4 + 1, none⟩ = some (.int .i64 sf)) (by kernel_rfl) (⟨y1, y2, y3⟩) (fun hHeld => ?_)
      refine takeAt 0 (some 14) ?_ rfl rfl (by kernel_rfl) (by kernel_rfl) (by kernel_rfl) (fun _ _ _ h => h) (Or.inl ⟨by rfl, ?_⟩) hHeld ?_
      rotate_left
      · intro w hSw
        go_simp <;> with_reducible rfl
      try simp only [Act.put, List.setIfInBounds_toArray, List.set_cons_zero, List.set_cons_succ]
      refine takeAt 1 (some 15) ?_ rfl rfl (by kernel_rfl) (by kernel_rfl) (by kernel_rfl) (fun _ _ _ h => h) (Or.inl ⟨by rfl, ?_⟩) hHeld ?_
      rotate_left
      · intro w hSw
        go_simp <;> with_reducible rfl
      try simp only [Act.put, List.setIfInBounds_toArray, List.set_cons_zero, List.set_cons_succ]
      refine takeAt 2 (some 16) ?_ rfl rfl (by kernel_rfl) (by kernel_rfl) (by kernel_rfl) (fun _ _ _ h => h) (Or.inl ⟨by rfl, ?_⟩) hHeld ?_
      rotate_left
      · intro w hSw
        go_simp <;> with_reducible rfl
      try simp only [Act.put, List.setIfInBounds_toArray, List.set_cons_zero, List.set_cons_succ]
      refine takeAt 3 (some 17) ?_ rfl rfl (by kernel_rfl) (by kernel_rfl) (by kernel_rfl) (fun _ _ _ h => h) (Or.inl ⟨by rfl, ?_⟩) hHeld ?_
      rotate_left
      · intro w hSw
        go_simp <;> with_reducible rfl
      try simp only [Act.put, List.setIfInBounds_toArray, List.set_cons_zero, List.set_cons_succ]
      refine takeAt 4 (some 18) ?_ rfl rfl (by kernel_rfl) (by kernel_rfl) (by kernel_rfl) (fun _ _ _ h => h) (Or.inl ⟨by rfl, ?_⟩) hHeld ?_
      rotate_left
      · intro w hSw
        go_simp <;> with_reducible rfl
      try simp only [Act.put, List.setIfInBounds_toArray, List.set_cons_zero, List.set_cons_succ]
      refine takeAt 5 (some 19) ?_ rfl rfl (by kernel_rfl) (by kernel_rfl) (by kernel_rfl) (fun _ _ _ h => h) (Or.inl ⟨by rfl, ?_⟩) hHeld ?_
      rotate_left
      · intro w hSw
        go_simp <;> with_reducible rfl
      try simp only [Act.put, List.setIfInBounds_toArray, List.set_cons_zero, List.set_cons_succ]
      refine takeAt 6 (some 20) ?_ rfl rfl (by kernel_rfl) (by kernel_rfl) (by kernel_rfl) (fun _ _ _ h => h) (Or.inl ⟨by rfl, ?_⟩) hHeld ?_
      rotate_left
      · intro w hSw
        go_simp <;> with_reducible rfl
      try simp only [Act.put, List.setIfInBounds_toArray, List.set_cons_zero, List.set_cons_succ]
      refine takeAt 7 (some 21) ?_ rfl rfl (by kernel_rfl) (by kernel_rfl) (by kernel_rfl) (fun _ _ _ h => h) (Or.inl ⟨by rfl, ?_⟩) hHeld ?_
      rotate_left
      · intro w hSw
        go_simp <;> with_reducible rfl
      try simp only [Act.put, List.setIfInBounds_toArray, List.set_cons_zero, List.set_cons_succ]
      refine takeAt 8 (some 22) ?_ rfl rfl (by kernel_rfl) (by kernel_rfl) (by kernel_rfl) (fun _ _ _ h => h) (Or.inl ⟨by rfl, ?_⟩) hHeld ?_
      rotate_left
      · intro w hSw
        go_simp <;> with_reducible rfl
      try simp only [Act.put, List.setIfInBounds_toArray, List.set_cons_zero, List.set_cons_succ]
      refine takeAt 9 (some 23) ?_ rfl rfl (by kernel_rfl) (by kernel_rfl) (by kernel_rfl) (fun _ _ _ h => h) (Or.inl ⟨by rfl, ?_⟩) hHeld ?_
      rotate_left
      · intro w hSw
        go_simp <;> with_reducible rfl
      try simp only [Act.put, List.setIfInBounds_toArray, List.set_cons_zero, List.set_cons_succ]
      refine takeAt 10 (some 24) ?_ rfl rfl (by kernel_rfl) (by kernel_rfl) (by kernel_rfl) (fun _ _ _ h => h) (Or.inl ⟨by rfl, ?_⟩) hHeld ?_
      rotate_left
      · intro w hSw
        go_simp <;> with_reducible rfl
      try simp only [Act.put, List.setIfInBounds_toArray, List.set_cons_zero, List.set_cons_succ]
      refine takeAt 11 (some 25) ?_ rfl rfl (by kernel_rfl) (by kernel_rfl) (by kernel_rfl) (fun _ _ _ h => h) (Or.inl ⟨by rfl, ?_⟩) hHeld ?_
      rotate_left
      · intro w hSw
        go_simp <;> with_reducible rfl
      try simp only [Act.put, List.setIfInBounds_toArray, List.set_cons_zero, List.set_cons_succ]
      refine takeAt 12 (some 26) ?_ rfl rfl (by kernel_rfl) (by kernel_rfl) (by kernel_rfl) (fun _ _ _ h => h) (Or.inl ⟨by rfl, ?_⟩) hHeld ?_
      rotate_left
      · intro w hSw
        go_simp <;> with_reducible rfl
      try simp only [Act.put, List.setIfInBounds_toArray, List.set_cons_zero, List.set_cons_succ]
      refine takeAt 13 (some 27) ?_ rfl rfl (by kernel_rfl) (by kernel_rfl) (by kernel_rfl) (fun _ _ _ h => h) (Or.inl ⟨by rfl, ?_⟩) hHeld ?_
      rotate_left
      · intro w hSw
        go_simp <;> with_reducible rfl
      try simp only [Act.put, List.setIfInBounds_toArray, List.set_cons_zero, List.set_cons_succ]
      refine takeAt 14 (some 28) ?_ rfl rfl (by kernel_rfl) (by kernel_rfl) (by kernel_rfl) (fun _ _ _ h => h) (Or.inl ⟨by rfl, ?_⟩) hHeld ?_
      rotate_left
      · intro w hSw
        go_simp <;> with_reducible rfl
      try simp only [Act.put, List.setIfInBounds_toArray, List.set_cons_zero, List.set_cons_succ]
      refine takeAt 15 (some 29) ?_ rfl rfl (by kernel_rfl) (by kernel_rfl) (by kernel_rfl) (fun _ _ _ h => h) (Or.inl ⟨by rfl, ?_⟩) hHeld ?_
      rotate_left
      · intro w hSw
        go_simp <;> with_reducible rfl
      try simp only [Act.put, List.setIfInBounds_toArray, List.set_cons_zero, List.set_cons_succ]
      refine takeAt 16 (some 30) ?_ rfl rfl (by kernel_rfl) (by kernel_rfl) (by kernel_rfl) (fun _ _ _ h => h) (Or.inl ⟨by rfl, ?_⟩) hHeld ?_
      rotate_left
      · intro w hSw
        go_simp <;> with_reducible rfl
      try simp only [Act.put, List.setIfInBounds_toArray, List.set_cons_zero, List.set_cons_succ]
      refine takeAt 17 (some 31) ?_ rfl rfl (by kernel_rfl) (by kernel_rfl) (by kernel_rfl) (fun _ _ _ h => h) (Or.inl ⟨by rfl, ?_⟩) hHeld ?_
      rotate_left
      · intro w hSw
        go_simp <;> with_reducible rfl
      try simp only [Act.put, List.setIfInBounds_toArray, List.set_cons_zero, List.set_cons_succ]
      refine wpAnyH_ready (rs := [18]) (by kernel_rfl) (by simp) ?_
      refine AllReadyH.cons rfl (fun K hK => ?_) AllReadyH.nil
      go_simp
      refine hK.out _ _ (⟨kp_cell (kp_alloc _ _) hHeld.1, kp_cell (kp_alloc _ _) hHeld.2.1, kp_cell (kp_alloc _ _) hHeld.2.2⟩) (fun hHeld => ?_)
      clear hK K
      try simp only [Act.put, List.setIfInBounds_toArray, List.set_cons_zero, List.set_cons_succ]
      refine wpAnyH_ready (rs := [19]) (by kernel_rfl) (by simp) ?_
      refine AllReadyH.cons rfl (fun K1 hK => ?_) AllReadyH.nil
      have kA : Kp wr (wr.drew.alloc (.cells #[.int .i64 sq, .int .i64 sf] 64)) := kp_trans (kp_drew _) (kp_alloc _ _)
      have HB : Hid (w.heap.size ≤ (wr.drew.alloc (.cells #[.int .i64 sq, .int .i64 sf] 64)).heap.size) := Nat.le_trans HI.out.2.size kA.size
      refine step_st (n := i) rfl (.tmp 14) (.tmp 32) rfl rfl (row_kp HI.out.1 kA) rfl (Lc.new _ _ _) (by omega) HB.out ?_
      intro a3 e3 w5 q1 q2 q3
      have HQ2 : Hid (w5.ownsRow w.heap.size 64 2 (.slice a3 (i + 1) e3) (i + 1) (flatS (m.L.take (i + 1))) ∧ Kp w w5) := ⟨by rw [HS.out, flatS_app, HQ.out]; exact q1, (kp_trans HI.out.2 kA).trans q3⟩
      have hS5 : w5.cell? ⟨r, 1, none⟩ = some (.slice (some ⟨g, 0, none⟩) N cap) ∧ w5.cell? ⟨g, i * 4, none⟩ = some (.int .i64 sq) ∧ w5.cell? ⟨g, i * 4 + 1, none⟩ = some (.int .i64 sf) := by
        have hne : ∀ x, x < w.heap.size → some x ≠ (Value.slice a' i c').ownBlock := fun x hx e => by have := (HI.out.1.lt _ e.symm).1; omega
        have hlt := HB.out
        refine ⟨?_, ?_, ?_⟩
        · rw [q2.cell_far _ (Nat.lt_of_lt_of_le hr0 hlt) (hne _ hr0)]; exact hHeld.1
        · rw [q2.cell_far _ (Nat.lt_of_lt_of_le hg0 hlt) (hne _ hg0)]; exact hHeld.2.1
        · rw [q2.cell_far _ (Nat.lt_of_lt_of_le hg0 hlt) (hne _ hg0)]; exact hHeld.2.2
      clear q1 q2 q3
      change K1 (Act.put _ (some 33) (.slice a3 (i + 1) e3)) w5
      refine hK.out _ _ hS5 (fun hHeld => ?_)
      clear hK K1
      try simp only [Act.put, List.setIfInBounds_toArray, List.set_cons_zero, List.set_cons_succ]
      refine wpAnyH_ready (rs := [20]) (by kernel_rfl) (by simp) ?_
      refine AllReadyH.cons rfl (fun K hK => ?_) AllReadyH.nil
      go_simp
      refine hK.out _ _ (hHeld) (fun hHeld => ?_)
      clear hK K
      try simp only [Act.put, List.setIfInBounds_toArray, List.set_cons_zero, List.set_cons_succ]
      refine wpAnyH_done (by kernel_rfl) ?_ _
      refine NoPanic.normal ?_
      go_wp2_with fail
      go_roundw
      case rel => exact ⟨i + 1, a3, e3, by omega, by go_num, rfl, HQ2.out⟩
      case measure => simp only [intOf]; omega
    · obtain rfl : i = N := by omega
      have d1 : decide ((i : Int) < (i : Int)) = false := by simp
      have HX : Hid (Sr w.heap.size (.slice a' i c') m.L wr ∧ Kp w wr) := by
        have h1 := HI.out.1
        rw [List.take_of_length_le (by rw [HL.out]; exact Nat.le_refl _)] at h1
        exact ⟨by unfold Sr; rw [HL.out]; exact h1, HI.out.2⟩
      clear HI
      go_wp2_with fail
      go_ret
      exact ⟨_, rfl, HX.out⟩
end
end Go.Proofs.Ytbkhhgaihhbhjaa
/- States alike. -/
namespace Go.Proofs.Ytbkhhgaihhbhjaa
open Go.ChangeShapes Go.WideShapes Go.ChangeAt Go.RowKit Go.Maps Go.MapKept
set_option linter.unusedVariables false
set_option linter.unusedSimpArgs false
set_option maxRecDepth 100000
theorem eqSS (a b : Int) (w : World) : Sem.run Try.prog (Op.equal 64 (.agg #[.int .i64 a, .int .i64 b]) (.agg #[.int .i64 a, .int .i64 b])) w = .ok true w := by
  have u3 := Try.underlying3
  have a3 := Try.isAgg3
  have z3 := Try.sizeOf3
  have hS : Try.prog.underlying 64 = some (.struct (Try.prog.fieldsOf 64)) := by kernel_rfl
  have hp : Try.prog.stoodInHeld 64 = false := by kernel_rfl
  show Sem.run Try.prog (Op.equalIn (9999 + 1) 64 _ _) w = _
  rw [run_equalIn_agg w 9999 64 _ _ hS hp]
  simp only [Program.fieldsOf, Try.underlying64]
  go_simp
theorem neqSS (x y : Int) (w : World) : Sem.run Try.prog (binOp BinOp.neq 64 (.agg #[.int .i64 x, .int .i64 y]) (.agg #[.int .i64 x, .int .i64 y])) w = .ok (.bool false) w := by
  simp [binOp, eqSS]
theorem Sr.cell {B g N c : Nat} {l : List St} {w : World} (h : Sr B (.slice (some ⟨g, 0, none⟩) N c) l w) (hN : l.length = N) {i : Nat} {s : St} (hi : l[i]? = some s) : w.cell? ⟨g, i * 2, none⟩ = some (.int .i64 s.seq) ∧ w.cell? ⟨g, i * 2 + 1, none⟩ = some (.int .i64 s.fr) := by
  have hl := (List.getElem?_eq_some_iff.1 hi).1
  obtain ⟨q0, q1⟩ := flatS_at hi
  subst hN
  unfold Sr at h
  have h0 := World.ownsRow.cellAt (size := 2) (n := l.length) h (i * 2) (by omega)
  have h1 := World.ownsRow.cellAt (size := 2) (n := l.length) h (i * 2 + 1) (by omega)
  exact ⟨h0.trans q0, h1.trans q1⟩
set_option maxHeartbeats 8000000 in
theorem alike_eq {B C : Nat} {v1 v2 : Value} {l : List St} {w : World} (h1 : Sr B v1 l w) (h2 : Sr C v2 l w) :
    Calls Try.prog 24 #[v1, v2] w fun e w' => e = .returned (.bool true) ∧ ∃ q, w' = w.drewN q := by
  obtain ⟨a1, c1, rfl, p1, p2⟩ := owns_form h1
  obtain ⟨a2, c2, rfl, _, _⟩ := owns_form h2
  obtain ⟨n, hn⟩ : ∃ n, l.length = n := ⟨_, rfl⟩
  rw [hn] at h1 h2 p1 ⊢
  have HA : Hid (Sr B (.slice a1 n c1) l w ∧ Sr C (.slice a2 n c2) l w ∧ l.length = n) := ⟨h1, h2, hn⟩
  have hd0 : ((n : Int) != (n : Int)) = false := by simp
  have he := neqSS
  unfold maxLen at p2
  have hn9 : n ≤ 9223372036854775807 := by omega
  clear h1 h2 hn p1 p2
  go_enter Try.func24, Try.ntmps24
  go_wp2_with fail
  go_loopw [5] (fun vi wr => ∃ i : Nat, i ≤ n ∧ vi = .int .i64 i ∧ ∃ q, wr = w.drewN q) (fun vi _ => n - (intOf vi).toNat)
  case atStart => exact ⟨0, Nat.zero_le _, by go_num, 0, rfl⟩
  case round =>
    obtain ⟨i, hi, rfl, q0, rfl⟩ := hrel
    by_cases hlt : i < n
    · have hdl : decide ((i : Int) < (n : Int)) = true := decide_eq_true (by omega)
      have hdm : decide (i < n) = true := decide_eq_true (by omega)
      obtain ⟨s, hs⟩ : ∃ s, l[i]? = some s := ⟨_, List.getElem?_eq_getElem (by rw [HA.out.2.2]; exact hlt)⟩
      have hli : (i : Int) < (n : Int) := by omega
      obtain ⟨g1, rfl⟩ : ∃ g, a1 = some ⟨g, 0, none⟩ := by
        rcases HA.out.1.2 with ⟨_, e0⟩ | ⟨g, _, _, e, _⟩
        · have := HA.out.2.2; omega
        · cases e; exact ⟨g, rfl⟩
      obtain ⟨g2, rfl⟩ : ∃ g, a2 = some ⟨g, 0, none⟩ := by
        rcases HA.out.2.1.2 with ⟨_, e0⟩ | ⟨g, _, _, e, _⟩
        · have := HA.out.2.2; omega
        · cases e; exact ⟨g, rfl⟩
      obtain ⟨x1, x2⟩ := HA.out.1.cell HA.out.2.2 hs
      obtain ⟨y1, y2⟩ := HA.out.2.1.cell HA.out.2.2 hs
      obtain ⟨sq, hsq⟩ : ∃ x, s.seq = x := ⟨_, rfl⟩
      obtain ⟨sf, hsf⟩ : ∃ x, s.fr = x := ⟨_, rfl⟩
      rw [hsq] at x1 y1
      rw [hsf] at x2 y2
      clear hs hsq hsf
      go_wp2_with fail
      go_quiet (fail)
      go_wp2_with fail
      go_roundw
      case rel => exact ⟨i + 1, by omega, by go_num, _, rfl⟩
      case measure => simp only [intOf]; omega
    · obtain rfl : i = n := by omega
      have hdl : decide ((i : Int) < (i : Int)) = false := by simp
      go_wp2_with fail
      go_ret
      exact ⟨rfl, _, rfl⟩
end Go.Proofs.Ytbkhhgaihhbhjaa
