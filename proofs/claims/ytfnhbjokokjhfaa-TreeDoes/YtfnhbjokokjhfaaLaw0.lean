/- What the statements' proofs share: two trees that lie apart; an argument of lines. -/
import Derived.Test.YtfnhbjokokjhfaaKnown
import Derived.Deep.Strs
import Derived.SizedLaws
import Derived.Carry
namespace Go.Proofs.Ytfnhbjokokjhfaa
open Go.ChangeShapes Go.WideShapes Go.ChangeAt Go.RowKit
def Apart (oa ob : Own) : Prop := ∀ k, oa k ≠ .free → ob k = .free
theorem Apart.symm {oa ob : Own} (h : Apart oa ob) : Apart ob oa := fun k hk => by
  by_cases e : oa k = .free
  · exact e
  · exact absurd (h k e) hk
theorem Row.kept {oa ob ob' : Own} {w w' : World} {g : Tag} {e : TypeId} {size n : Nat} {v : Value} {xs : List Value} (h : Row oa w g e size v n xs) (hg : g ≠ .free) (hd : Apart oa ob) (k : Keeps ob ob' w w') : Row oa w' g e size v n xs :=
  h.same fun b hb => k.block b (h.lt hb) (hd b (by rw [h.2 b hb]; exact hg))
theorem RepX.kept {oa ob ob' : Own} {w w' : World} {t : Nat} {s : St} {vn vg : Value} (h : Rep oa w t s vn vg) (hd : Apart oa ob) (k : Keeps ob ob' w w') : Rep oa w' t s vn vg :=
  ⟨h.ot, by rw [k.block t h.tlt (hd t (by rw [h.ot]; simp))]; exact h.tree, h.nodes.kept (by simp) hd k, h.gone.kept (by simp) hd k, fun i n hi hx => (h.lines i n hi hx).kept (by simp) hd k, fun i n hi hx => (h.kids i n hi hx).kept (by simp) hd k, fun j hj => Nat.lt_of_lt_of_le (h.lt j hj) k.size⟩
section
variable {oa ob ob' : Own} {w w' : World} {t m : Nat} {ls : List ByteArray}
theorem Tr.kept (h : Tr oa w t ls m) (hd : Apart oa ob) (k : Keeps ob ob' w w') : Tr oa w' t ls m ∧ Apart oa ob' := by
  have hlt := h.lt
  obtain ⟨s, vn, vg, d, h1, h2, h3⟩ := h
  exact ⟨⟨s, vn, vg, d, h1.kept hd k, h2, h3⟩, fun j hj => k.own j (hlt j hj) (hd j hj)⟩
theorem apart_nobody : Apart oa nobody := fun _ _ => rfl
/-- What is older than 'B' is no tree's. -/
def Old (B : Nat) (o : Own) : Prop := ∀ k, k < B → o k = .free
theorem Old.keeps {B : Nat} (h : Old B ob) (k : Keeps ob ob' w w') (hB : B ≤ w.heap.size) : Old B ob' ∧ Below B w w' :=
  ⟨fun j hj => k.own j (by omega) (h j hj), k.below hB h⟩
theorem old_nobody {B : Nat} : Old B nobody := fun _ _ => rfl
theorem Lies.at {B : Nat} {W wr : World} {v : Value} {ms : List ByteArray} (h : Lies nobody W v ms) (hB : W.heap.size ≤ B) (hb : Below B W wr) (ho : Old B ob) : Lies ob wr v ms := by
  obtain ⟨a, cap, h1, h2, h3, h | ⟨b, off, h4, h5, h6, h7⟩⟩ := h
  · exact ⟨a, cap, h1, h2, h3, .inl h⟩
  · refine ⟨a, cap, h1, h2, h3, .inr ⟨b, off, h4, Nat.lt_of_lt_of_le h5 hb.size, ho b (by omega), fun j y hj => ?_⟩⟩
    have := h7 j y hj
    simp only [World.cell?, hb.block b (by omega)] at this ⊢; exact this
end
theorem sizes_le {ms : List ByteArray} {c : Nat} (h : ∀ y ∈ ms, y.size ≤ c) : sizes ms ≤ ms.length * c := by
  induction ms with
  | nil => simp [sizes]
  | cons a r ih =>
    have h1 := ih fun y hy => h y (by simp [hy])
    have h2 := h a (by simp)
    rw [sizes_cons, List.length_cons, Nat.add_mul]; omega
theorem weights_mem {H : Type} {P : Program} {e : TypeId} {ds : List (DataW H)} {d : DataW H} {n : Nat} (hd : d ∈ ds) (hn : n ∈ d.weights P e) : n ∈ DataW.weightsAll P e ds := by
  induction ds with
  | nil => cases hd
  | cons a r ih =>
    simp only [DataW.weightsAll, List.mem_append]
    rcases List.mem_cons.1 hd with rfl | hd
    · exact .inl hn
    · exact .inr (ih hd)
theorem weights_all {H : Type} {P : Program} {ts : List TypeId} {ds : List (DataW H)} (h : (DataW.weightsEach P ts ds).all (· ≤ reachBytes) = true) {j : Nat} {t : TypeId} {d : DataW H} (ht : ts[j]? = some t) (hd : ds[j]? = some d) : ∀ n ∈ d.weights P t, n ≤ reachBytes := fun n hn => by
  have := List.all_eq_true.1 h _ (DataW.weights_mem_each ht hd n hn)
  simpa using this
theorem cells9 : Try.prog.cellsOf 9 = 1 := by kernel_rfl
theorem under9 : Try.prog.underlying 9 = some .string := by kernel_rfl
theorem under22 : Try.prog.underlying 22 = some (.slice 9) := by kernel_rfl
/-- Cells that are read as lines. -/
theorem strs_cells {H : Type} {enc : TypeId × Value → H} {W : World} {fuel : Nat} {v : Value} {d : DataW H} {p : List MemPlace} (h : DataW.trod enc Try.prog W 0 (fun _ => true) true fuel 22 [v] = some (d, p)) :
    ∃ ms, Lies nobody W v ms ∧ ((∀ n ∈ d.weights Try.prog 22, n ≤ reachBytes) → ∀ y ∈ ms, y.size ≤ reachBytes) := by
  rcases Deep.open_strs under22 under9 cells9 h with ⟨hcs, hx⟩ | ⟨a, len, cap, m, Sx, hcs, _, hl, hm, hmm, hx, hcell⟩
  · simp only [List.cons.injEq, and_true] at hcs
    subst hcs
    exact ⟨[], lies_nil, fun _ y hy => by cases hy⟩
  · simp only [List.cons.injEq, and_true] at hcs
    subst hcs
    simp only [if_true] at hmm
    subst hmm
    simp only [Prod.mk.injEq] at hx
    refine ⟨(List.range len).map Sx, ⟨some a, m, by simp, by simpa using hl, hm, ?_⟩, fun hw y hy => ?_⟩
    · by_cases h0 : len = 0
      · left; subst h0; rfl
      · right
        obtain ⟨b, off, spot⟩ := a
        have hspot : spot = none := by simpa [Addr.add] using World.cell?_spot (hcell 0 (by omega)).1
        subst hspot
        have hc : ∀ j, j < m → W.cell? ⟨b, off + j, none⟩ = some (.string (Sx j)) := fun j hj => by rw [← add_plain]; exact (hcell j hj).1
        refine ⟨b, off, rfl, World.block_lt_of_cell? _ _ (hc 0 (by omega)), rfl, fun j y hj => ?_⟩
        simp only [List.getElem?_map, Option.map_eq_some_iff] at hj
        obtain ⟨i, hi, rfl⟩ := hj
        obtain ⟨hlt, hi⟩ := List.getElem?_eq_some_iff.1 hi
        simp at hi hlt
        subst hi
        exact hc j (by omega)
    · obtain ⟨i, hi, rfl⟩ := List.mem_map.1 hy
      rw [hx.1] at hw
      refine hw _ ?_
      simp only [DataW.weights, under22]
      refine List.mem_cons_of_mem _ (List.mem_append_left _ (weights_mem (d := .lit (.string (Sx i).data.toList)) (List.mem_map.2 ⟨i, hi, rfl⟩) ?_))
      simp only [DataW.weights, List.mem_singleton]
      show (Sx i).data.size = _
      rw [Array.length_toList]
theorem strs_form {H : Type} {enc : TypeId × Value → H} {W : World} {base : Nat} {v : Value} {d : DataW H} {p : List MemPlace} (hval : Value.okWide Try.prog W .any base 22 v) (h : DataW.Trod enc Try.prog W 0 (fun _ => true) true 22 v d p) :
    ∃ ms, Lies nobody W v ms ∧ ((∀ n ∈ d.weights Try.prog 22, n ≤ reachBytes) → ∀ y ∈ ms, y.size ≤ reachBytes) := by
  obtain ⟨a0, len, cap, rfl⟩ := okWide_slice under22 hval
  obtain ⟨fuel, hf⟩ := h
  exact strs_cells hf
/-- Three trees, apart, beside what is older than 'B'. -/
structure Three (B : Nat) (W wr : World) (ta tb tc : Nat) (la lb lc : List ByteArray) (m : Nat) : Prop where
  ex : ∃ oa ob oc, Tr oa wr ta la m ∧ Tr ob wr tb lb m ∧ Tr oc wr tc lc m ∧ Apart oa ob ∧ Apart oa oc ∧ Apart ob oc ∧ Old B oa ∧ Old B ob ∧ Old B oc
  below : Below B W wr
  le : B ≤ W.heap.size
section
variable {B : Nat} {W wr w' : World} {ta tb tc : Nat} {la lb lc : List ByteArray} {m : Nat}
theorem Three.rot (h : Three B W wr ta tb tc la lb lc m) : Three B W wr tb tc ta lb lc la m := by
  obtain ⟨oa, ob, oc, h1, h2, h3, h4, h5, h6, h7, h8, h9⟩ := h.ex
  exact ⟨⟨ob, oc, oa, h2, h3, h1, h6, h4.symm, h5.symm, h8, h9, h7⟩, h.below, h.le⟩
theorem Three.under (h : Three B W wr ta tb tc la lb lc m) (hb : Below wr.heap.size wr w') : Three B W w' ta tb tc la lb lc m := by
  obtain ⟨oa, ob, oc, h1, h2, h3, h4, h5, h6, h7, h8, h9⟩ := h.ex
  exact ⟨⟨oa, ob, oc, h1.below hb, h2.below hb, h3.below hb, h4, h5, h6, h7, h8, h9⟩, h.below.trans (below_mono hb (Nat.le_trans h.le h.below.size)), h.le⟩
theorem Three.insert (h : Three B W wr ta tb tc la lb lc m) (hl : la.length < 2 ^ 38) (hm : m < 70000000) {y : ByteArray} (hb : sizes la + y.size < 2 ^ 62) {i : Nat} (hi : i ≤ la.length) :
    Calls Try.prog 11 #[.pointer (some ⟨ta, 0, none⟩), .int .i64 i, .string y] wr fun e w' => e = .returned (.bool true) ∧ Three B W w' ta tb tc (la.take i ++ y :: la.drop i) lb lc (m + 22) := by
  obtain ⟨oa, ob, oc, h1, h2, h3, h4, h5, h6, h7, h8, h9⟩ := h.ex
  refine (insert_ok h1 hl hm hb hi).mono ?_
  rintro e w' ⟨rfl, oa', q1, q2⟩
  obtain ⟨r1, r2⟩ := h2.kept h4.symm q2
  obtain ⟨r3, r4⟩ := h3.kept h5.symm q2
  obtain ⟨r5, r6⟩ := h7.keeps q2 (Nat.le_trans h.le h.below.size)
  exact ⟨rfl, ⟨oa', ob, oc, q1, r1.mono (by omega), r3.mono (by omega), r2.symm, r4.symm, h6, r5, h8, h9⟩, h.below.trans r6, h.le⟩
theorem Three.lines (h : Three B W wr ta tb tc la lb lc m) (hl : la.length < 2 ^ 38) : Calls Try.prog 13 #[.pointer (some ⟨ta, 0, none⟩)] wr fun e w' => ∃ v, e = .returned v ∧ Lies nobody w' v la ∧ Three B W w' ta tb tc la lb lc m := by
  obtain ⟨oa, ob, oc, h1, _⟩ := h.ex
  refine (lines_any h1 hl).mono ?_
  rintro e w' ⟨v, rfl, hT⟩
  exact ⟨v, rfl, hT.lies, h.under hT.1⟩
theorem Three.bytes (h : Three B W wr ta tb tc la lb lc m) : Calls Try.prog 14 #[.pointer (some ⟨ta, 0, none⟩)] wr fun e w' => e = .returned (.int .i64 (sizes la)) ∧ Three B W w' ta tb tc la lb lc m := by
  obtain ⟨oa, ob, oc, h1, _⟩ := h.ex
  refine h1.bytes.mono ?_
  rintro e w' ⟨rfl, q, rfl⟩
  exact ⟨rfl, h.under (below_drewN _ _)⟩
theorem Three.shape (h : Three B W wr ta tb tc la lb lc m) (hl : la.length < 2 ^ 30) : Calls Try.prog 16 #[.pointer (some ⟨ta, 0, none⟩)] wr fun e w' => ∃ v, e = .returned v ∧ Three B W w' ta tb tc la lb lc m ∧
    Calls Try.prog 15 #[v, .int .i64 la.length] w' fun e w2 => e = .returned (.bool true) ∧ Three B W w2 ta tb tc la lb lc m := by
  obtain ⟨oa, ob, oc, h1, _⟩ := h.ex
  refine (shape_any h1 hl).mono ?_
  rintro e w' ⟨v, rfl, hS⟩
  have h2 := h.under hS.below
  refine ⟨v, rfl, h2, (hS.shaped hl).mono ?_⟩
  rintro e w2 ⟨rfl, q, rfl⟩
  exact ⟨rfl, h2.under (below_drewN _ _)⟩
theorem Three.same (h : Three B W wr ta tb tc la lb lc m) {v v' : Value} {l l' : List ByteArray} (h1 : Lies nobody wr v l) (h2 : Lies nobody wr v' l') (hl : l.length < 2 ^ 40) : Calls Try.prog 12 #[v, v'] wr fun e w' => e = .returned (.bool (decide (l = l'))) ∧ Three B W w' ta tb tc la lb lc m := by
  refine (same_any h1 h2 hl).mono ?_
  rintro e w' ⟨rfl, q, rfl⟩
  exact ⟨rfl, h.under (below_drewN _ _)⟩
theorem three_new {w0 w1 w2 w3 : World} (hb : Below B W w0) (hle : B ≤ W.heap.size) (h1 : After nobody w0 ta la m w1) (h2 : After nobody w1 tb lb m w2) (h3 : After nobody w2 tc lc m w3) : Three B W w3 ta tb tc la lb lc m := by
  have l0 := Nat.le_trans hle hb.size
  obtain ⟨oa, a1, a2⟩ := h1
  obtain ⟨ob, b1, b2⟩ := h2
  obtain ⟨oc, c1, c2⟩ := h3
  obtain ⟨x1, x2⟩ := (old_nobody (B := B)).keeps a2 l0
  have l1 := Nat.le_trans l0 a2.size
  obtain ⟨x3, x4⟩ := (old_nobody (B := B)).keeps b2 l1
  have l2 := Nat.le_trans l1 b2.size
  obtain ⟨x5, x6⟩ := (old_nobody (B := B)).keeps c2 l2
  obtain ⟨a3, a4⟩ := a1.kept apart_nobody b2
  obtain ⟨a5, a6⟩ := a3.kept apart_nobody c2
  obtain ⟨b3, b4⟩ := b1.kept apart_nobody c2
  exact ⟨⟨oa, ob, oc, a5, b3, c1, a4, a6, b4, x1, x3, x5⟩, ((hb.trans x2).trans x4).trans x6, hle⟩
end
end Go.Proofs.Ytfnhbjokokjhfaa
