/- The tree's calls pieces and Part. -/
import Derived.Test.YtfnhbjokokjhfaaGet
import Derived.OwnWalk
namespace Go.Proofs.Ytfnhbjokokjhfaa
open Go.ChangeShapes Go.WideShapes Go.ChangeAt Go.RowKit
set_option linter.unusedVariables false
theorem step_append_fits_any {P : Program} (w : World) {ops : Array Oper} {o : Oper} {a : Act} {K : Act → World → Prop} {Q : Exit → Act → World → Prop} {E : Prop} (hg : o.guard = none) (s x : Operand) (t : TypeId) (hop : o.op = Op.call { callee := Callee.builtin Builtin.append, args := #[s, x], argTypes := #[t, t] })
    (base : Nat) (e : TypeId) (i : TypeInfo) (size : Nat) (h1 : P.underlying t = some (.slice e)) (h2 : P.info? e = some i) (h4 : i.size = size)
    (g k cap : Nat) (xs : List Value) (hs : a.eval s = .slice (some ⟨g, 0, none⟩) k cap) (hown : w.ownsRow base e size (.slice (some ⟨g, 0, none⟩) k cap) k xs) (ao : Option Addr) (m c : Nat) (news : List Value) (hx : a.eval x = .slice ao m c) (hn : news.length = m * size)
    (hnone : ao = none → m = 0 ∧ c = 0) (hc : ∀ ad, ao = some ad → ∀ j u, news[j]? = some u → w.cell? (ad.add j) = some u) (h1c : ∀ u ∈ news, u.oneCell' = true) (b1 : k + m ≤ cap)
    (hK : ∀ w', w'.ownsRow base e size (.slice (some ⟨g, 0, none⟩) (k + m) cap) (k + m) (xs ++ news) → w.grownBy w' (some g) → K (a.put o.dst (.slice (some ⟨g, 0, none⟩) (k + m) cap)) w') :
    if Region.wanted o (yielded ops a.tmps) = true then Oper.wp P o a w K Q else E := by
  have hw : Region.wanted o (yielded ops a.tmps) = true := by simp [Region.wanted, hg]
  rw [if_pos hw]
  cases ao with
  | some ad =>
    obtain ⟨w', hrun, r1, r2⟩ := run_append_fits (P := P) w base t o.type e i size h1 h2 h4 g k cap xs hown ad m c news hn (hc ad rfl) h1c b1
    unfold Oper.wp
    simp [execOp, hop, resolve, invoke, builtin, hs, hx, hrun, Result.andThen]
    exact hK w' r1 r2
  | none =>
    obtain ⟨rfl, rfl⟩ := hnone rfl
    have hnews : news = [] := List.eq_nil_of_length_eq_zero (by simpa using hn)
    subst hnews
    have hrun := run_append_owned_none (P := P) w base t o.type e i size h1 h2 _ k xs hown
    unfold Oper.wp
    simp [execOp, hop, resolve, invoke, builtin, hs, hx, hrun, Result.andThen]
    have := hK w (by simpa using hown) (World.grownBy.refl _ _)
    simp only [Nat.add_zero] at this
    exact this
/-- What Part has gathered. -/
structure Got (w0 W : World) (pb nb gb n : Nat) (acc : List ByteArray) : Prop where
  below : Below w0.heap.size w0 W
  pge : w0.heap.size ≤ pb
  nge : w0.heap.size ≤ nb
  gge : w0.heap.size ≤ gb
  gp : gb ≠ pb
  gn : gb ≠ nb
  pn : pb ≠ nb
  p : W.heap[pb]? = some (.cells #[.slice (some ⟨gb, 0, none⟩) acc.length n] 22 (0, 0))
  nn : W.heap[nb]? = some (.cells #[.int .i64 n] 3 (0, 0))
  row : W.ownsRow w0.heap.size 9 1 (.slice (some ⟨gb, 0, none⟩) acc.length n) acc.length (strs acc)
  le : acc.length ≤ n
section
variable {w0 W : World} {pb nb gb n : Nat} {acc : List ByteArray}
theorem Got.drewN (h : Got w0 W pb nb gb n acc) (q : Nat) : Got w0 (W.drewN q) pb nb gb n acc := by
  have k : KB .free nobody nobody W (W.drewN q) := KB.same (Keeps.drewN nobody W q).os (Keeps.drewN nobody W q).tape (Keeps.drewN nobody W q).output (drewN_heap W q) (fun k hk => absurd rfl hk)
  have hb : Below w0.heap.size w0 (W.drewN q) := h.below.trans ⟨k.os, k.tape, k.output, k.size, fun j _ => by rw [drewN_heap]⟩
  refine ⟨hb, h.pge, h.nge, h.gge, h.gp, h.gn, h.pn, by rw [drewN_heap]; exact h.p, by rw [drewN_heap]; exact h.nn, ⟨h.row.1, ?_⟩, h.le⟩
  rcases h.row.2 with e | ⟨b, cap, cur, e, hb', hg, rest⟩
  · exact .inl e
  · exact .inr ⟨b, cap, cur, e, hb', by rw [drewN_heap]; exact hg, rest⟩
theorem Got.lt (h : Got w0 W pb nb gb n acc) : pb < W.heap.size ∧ nb < W.heap.size ∧ gb < W.heap.size :=
  ⟨(Array.getElem?_eq_some_iff.1 h.p).1, (Array.getElem?_eq_some_iff.1 h.nn).1, (h.row.lt gb rfl).2⟩
theorem Got.alloc (h : Got w0 W pb nb gb n acc) (ob : Obj) : Got w0 (W.alloc ob) pb nb gb n acc := by
  obtain ⟨l1, l2, l3⟩ := h.lt
  exact ⟨h.below.alloc h.below.size ob, h.pge, h.nge, h.gge, h.gp, h.gn, h.pn, by rw [alloc_old' W ob pb l1]; exact h.p, by rw [alloc_old' W ob nb l2]; exact h.nn, h.row.alloc ob, h.le⟩
/-- A store past what Part has. -/
theorem Got.store (h : Got w0 W pb nb gb n acc) {b off : Nat} {v : Value} (hb : w0.heap.size ≤ b) (h1 : b ≠ pb) (h2 : b ≠ nb) (h3 : b ≠ gb) : Got w0 (W.setCell ⟨b, off, none⟩ v) pb nb gb n acc := by
  refine ⟨h.below.trans ⟨rfl, rfl, rfl, by rw [size_setCell]; exact Nat.le_refl _, fun k hk => heap_setCell_other (by omega)⟩, h.pge, h.nge, h.gge, h.gp, h.gn, h.pn, by rw [heap_setCell_other (Ne.symm h1)]; exact h.p, by rw [heap_setCell_other (Ne.symm h2)]; exact h.nn, ⟨h.row.1, ?_⟩, h.le⟩
  rcases h.row.2 with e | ⟨b', cap, cur, e, hb', hg, rest⟩
  · exact .inl e
  · cases e
    exact .inr ⟨gb, n, cur, rfl, hb', by rw [heap_setCell_other (Ne.symm h3)]; exact hg, rest⟩
set_option maxHeartbeats 1000000 in
theorem partF_any (h : Got w0 W pb nb gb n acc) {ao : Option Addr} {l : List ByteArray} {c : Nat} (hn : n < 2 ^ 38) (hl : l.length < 2 ^ 38) (hlc : l.length ≤ c) (hc2 : c ≤ maxLen) (hnone : ao = none → l.length = 0 ∧ c = 0) (hcell : ∀ ad, ao = some ad → ∀ (j : Nat) y, l[j]? = some y → W.cell? (ad.add j) = some (.string y)) :
    Calls Try.prog 37 #[.slice ao l.length c, .pointer (some ⟨pb, 0, none⟩), .pointer (some ⟨nb, 0, none⟩)] W fun e w' => e = .returned (.bool (decide (((acc ++ l).take n).length < n))) ∧ Got w0 w' pb nb gb n ((acc ++ l).take n) := by
  obtain ⟨M, hM⟩ : ∃ M : Nat, M = min l.length (n - acc.length) := ⟨_, rfl⟩
  have hle := h.le
  have hmin : min (l.length : Int) ((n : Int) - (acc.length : Int)) = (M : Int) := by omega
  have e1 : (acc ++ l).take n = acc ++ l.take M := by
    rw [List.take_append, List.take_of_length_le hle, hM]; congr 1; rw [List.take_eq_take_iff]; omega
  have e2 : ((acc ++ l).take n).length = acc.length + M := by rw [e1]; simp; omega
  have c1 : W.cell? ⟨pb, 0, none⟩ = some (.slice (some ⟨gb, 0, none⟩) acc.length n) := by simp [World.cell?, h.p]
  have f1 : W.frozen? ⟨pb, 0, none⟩ = false := by simp [World.frozen?, h.p]
  have c2 : W.cell? ⟨nb, 0, none⟩ = some (.int .i64 n) := by simp [World.cell?, h.nn]
  obtain ⟨i9, hi9, z0, z1, z2⟩ := info_parts info9
  have HO : Hid (W.ownsRow w0.heap.size 9 1 (.slice (some ⟨gb, 0, none⟩) acc.length n) acc.length (strs acc)) := h.row
  have HN : Hid ((strs (l.take M)).length = M * 1) := by show (strs (l.take M)).length = M * 1; simp [strs]; omega
  have HNo : Hid (ao = none → M = 0 ∧ c = 0) := fun e => ⟨by have := (hnone e).1; omega, (hnone e).2⟩
  have HC : Hid (∀ W' : World, W'.heap = W.heap → ∀ ad, ao = some ad → ∀ j u, (strs (l.take M))[j]? = some u → W'.cell? (ad.add j) = some u) := by
    intro W' hW ad had j u hj
    simp only [strs, List.getElem?_map, Option.map_eq_some_iff] at hj
    obtain ⟨y, hy, rfl⟩ := hj
    rw [List.getElem?_take] at hy
    split at hy
    · have := hcell ad had j y hy
      simp only [World.cell?, hW] at this ⊢; exact this
    · cases hy
  have HOne : Hid (∀ u ∈ strs (l.take M), u.oneCell' = true) := strs_one _
  have HF : Hid (∀ w1 : World, w1.ownsRow w0.heap.size 9 1 (.slice (some ⟨gb, 0, none⟩) (acc.length + M) n) (acc.length + M) (strs acc ++ strs (l.take M)) → W.grownBy w1 (some gb) →
      (w1.cell? ⟨pb, 0, none⟩ = some (.slice (some ⟨gb, 0, none⟩) acc.length n) ∧ w1.frozen? ⟨pb, 0, none⟩ = false ∧ w1.cell? ⟨nb, 0, none⟩ = some (.int .i64 n)) ∧ Got w0 (w1.setCell ⟨pb, 0, none⟩ (.slice (some ⟨gb, 0, none⟩) (acc.length + M) n)) pb nb gb n ((acc ++ l).take n)) := by
    intro w1 ho hg
    obtain ⟨l1, l2, l3⟩ := h.lt
    have hp1 : w1.heap[pb]? = W.heap[pb]? := hg.block pb l1 (by simp; exact fun e => h.gp e.symm)
    have hn1 : w1.heap[nb]? = W.heap[nb]? := hg.block nb l2 (by simp; exact fun e => h.gn e.symm)
    rw [h.p] at hp1; rw [h.nn] at hn1
    refine ⟨⟨by simp [World.cell?, hp1], by simp [World.frozen?, hp1], by simp [World.cell?, hn1]⟩, ?_, h.pge, h.nge, h.gge, h.gp, h.gn, h.pn, ?_, ?_, ?_, ?_⟩
    · refine h.below.trans ⟨hg.os, hg.tape, hg.output, by rw [size_setCell]; exact hg.size, fun k hk => ?_⟩
      rw [heap_setCell_other (by have := h.pge; omega)]
      have := h.gge; have := h.below.size
      exact hg.block k (by omega) (by simp; omega)
    · rw [heap_setCell hp1, e2]; rfl
    · rw [heap_setCell_other (Ne.symm h.pn)]; exact hn1
    · rw [e2, e1]
      refine ⟨by simp [strs]; omega, ?_⟩
      rcases ho.2 with ⟨e, _⟩ | ⟨b', cap, cur, e, hb', hg', r1, r2, r3, r4⟩
      · cases e
      · cases e
        refine .inr ⟨gb, n, cur, rfl, hb', by rw [heap_setCell_other h.gp]; exact hg', r1, r2, r3, ?_⟩
        rw [r4]; simp [strs]
    · rw [e2]; omega
  have hAM : acc.length + M ≤ n := by omega
  have HE : Hid (((acc ++ l).take n).length = acc.length + M) := e2
  unfold maxLen at hc2
  have hMc : M ≤ c := by omega
  have hp1 : ¬ (pb = nb) := h.pn
  have hp2 : ¬ (nb = pb) := fun e => h.pn e.symm
  clear h hcell hnone e1 e2 hM
  generalize acc.length = A at *
  generalize l.length = L at *
  rw [HE.out]
  have HD : Hid (decide ((A : Int) + (M : Int) < (n : Int)) = decide (A + M < n)) := by
    show decide ((A : Int) + (M : Int) < (n : Int)) = decide (A + M < n)
    apply decide_eq_decide.2; omega
  go_enter Try.func37, Try.ntmps37
  have hwr : IntKind.i64.wrap ((n : Int) - (A : Int)) = (n : Int) - (A : Int) := by rw [IntKind.wrap_i64]; omega
  cases ao with
  | none =>
    have HN2 : Hid (M = 0 ∧ c = 0) := HNo.out rfl
    clear HNo
    go_wp2_with fail
    go_region_law ((refine step_append_fits_any _ rfl (.tmp 5) (.tmp 14) 22 rfl w0.heap.size 9 i9 1 Try.underlying22 hi9 z1 gb A n (strs acc) (by rfl) HO.out none M c (strs (l.take M)) (by rfl) HN.out (fun _ => HN2.out) (HC.out _ (by rfl)) HOne.out hAM ?_; intro w1 hown hgrow; obtain ⟨⟨q0, qf, qn⟩, HG⟩ := HF.out w1 hown ⟨hgrow.os, hgrow.tape, hgrow.output, hgrow.size, hgrow.block⟩; clear hown hgrow))
    all_goals go_wp2_with fail
    all_goals go_ret
    all_goals
      refine ⟨?_, HG⟩
      show Ending.returned (Value.bool (decide ((A : Int) + (M : Int) < (n : Int)))) = _
      rw [HD.out]
  | some ad =>
    clear HNo
    go_wp2_with fail
    go_region_law ((refine step_append_fits_any _ rfl (.tmp 5) (.tmp 14) 22 rfl w0.heap.size 9 i9 1 Try.underlying22 hi9 z1 gb A n (strs acc) (by rfl) HO.out (some ad) M c (strs (l.take M)) (by rfl) HN.out (fun e => by cases e) (HC.out _ (by rfl)) HOne.out hAM ?_; intro w1 hown hgrow; obtain ⟨⟨q0, qf, qn⟩, HG⟩ := HF.out w1 hown ⟨hgrow.os, hgrow.tape, hgrow.output, hgrow.size, hgrow.block⟩; clear hown hgrow))
    all_goals go_wp2_with fail
    all_goals go_ret
    all_goals
      refine ⟨?_, HG⟩
      show Ending.returned (Value.bool (decide ((A : Int) + (M : Int) < (n : Int)))) = _
      rw [HD.out]
end
end Go.Proofs.Ytfnhbjokokjhfaa
