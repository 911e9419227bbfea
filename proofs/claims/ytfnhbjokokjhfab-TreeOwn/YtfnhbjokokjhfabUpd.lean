/- How the memory that holds a tree turns: a call that turns one owner's row; a store into a node's field, into the tree's struct; a block that gets an owner. -/
import Derived.Test.YtfnhbjokokjhfabSlices
import Derived.Deep.AppendLies
namespace Go.Proofs.Ytfnhbjokokjhfab
open Go.ChangeShapes Go.WideShapes Go.ChangeAt Go.RowKit

theorem Row.kb {o o' : Own} {w w' : World} {g x : Tag} {e : TypeId} {size n : Nat} {v : Value} {xs : List Value} (h : Row o w g e size v n xs) (k : KB x o o' w w') (hx : g ≠ x) : Row o' w' g e size v n xs :=
  (h.same fun b hb => k.block b (h.lt hb) (by rw [h.2 b hb]; exact hx)).own fun b hb => k.keep b (h.lt hb) (by rw [h.2 b hb]; exact hx)

section
variable {x : Tag} {o o' : Own} {w w' : World} {t : Nat} {s : St} {vn vg : Value}
theorem RepX.open_ (h : Rep o w t s vn vg) (x : Tag) : RepX x o w t s vn vg := ⟨h.ot, h.tree, h.nodes, h.gone, fun i n hi _ => h.lines i n hi (by simp), fun i n hi _ => h.kids i n hi (by simp), h.lt⟩
/-- A call that turns the left-out owner's rows alone. -/
theorem RepX.kb (h : RepX x o w t s vn vg) (k : KB x o o' w w') (h1 : x ≠ .tree) (h2 : x ≠ .nodes) (h3 : x ≠ .gone) : RepX x o' w' t s vn vg := by
  have ht : o t ≠ x := by rw [h.ot]; exact fun e => h1 e.symm
  refine ⟨by rw [k.keep t h.tlt ht, h.ot], by rw [k.block t h.tlt ht]; exact h.tree, h.nodes.kb k (Ne.symm h2), h.gone.kb k (Ne.symm h3), fun i n hi hx => (h.lines i n hi hx).kb k hx, fun i n hi hx => (h.kids i n hi hx).kb k hx, k.lt⟩
theorem RepX.ne_tree (h : RepX x o w t s vn vg) {b : Nat} {g : Tag} (hb : o b = g) (hg : g ≠ .tree) : b ≠ t := fun e => hg (by rw [← hb, e, h.ot])
theorem Row.setCell {g g' : Tag} {e : TypeId} {size n b off : Nat} {v u : Value} {xs : List Value} (h : Row o w g e size v n xs) (hb : o b = g') (hg : g' ≠ g) : Row o (w.setCell ⟨b, off, none⟩ u) g e size v n xs :=
  h.same fun k hk => heap_setCell_other fun e => hg (by rw [← hb, ← e]; exact h.2 k hk)

theorem cells_set_at {ns : List Node} {i j : Nat} {n n' : Node} {v : Value} (hi : ns[i]? = some n) (hj : j < 4) (hc : n'.cells = n.cells.set j v) : (ns.set i n').flatMap Node.cells = (ns.flatMap Node.cells).set (i * 4 + j) v := by
  induction ns generalizing i with
  | nil => simp at hi
  | cons m ms ih =>
    cases i with
    | zero =>
      simp at hi; subst hi
      rw [List.set_cons_zero, List.flatMap_cons, List.flatMap_cons, hc, Nat.zero_mul, Nat.zero_add, List.set_append_left _ _ (by simp [Node.cells]; omega)]
    | succ i =>
      simp at hi
      rw [List.set_cons_succ, List.flatMap_cons, List.flatMap_cons, ih hi, List.set_append_right _ _ (by simp [Node.cells]; omega)]
      have : (i + 1) * 4 + j - m.cells.length = i * 4 + j := by simp [Node.cells]; omega
      rw [this]

/-- A store into a node's field. -/
theorem RepX.store (h : RepX x o w t s vn vg) {i j b m cap : Nat} {n n' : Node} {v : Value} (hx : x = .lines i ∨ x = .kids i ∨ x = .free) (hi : s.ns[i]? = some n) (hvn : vn = .slice (some ⟨b, 0, none⟩) m cap) (hj : j < 4)
    (hc : n'.cells = n.cells.set j v) (hl : Row o w (.lines i) 9 1 n'.vl n'.lines.length (strs n'.lines)) (hk : Row o w (.kids i) 3 1 n'.vk n'.kids.length (nums n'.kids)) :
    Rep o (w.setCell ⟨b, i * 4 + j, none⟩ v) t { s with ns := s.ns.set i n' } vn vg := by
  subst hvn
  have hob : o b = .nodes := h.nodes.2 b rfl
  have hlen : i < s.ns.length := (List.getElem?_eq_some_iff.1 hi).1
  refine ⟨h.ot, ?_, ?_, h.gone.setCell hob (by simp), fun k nk hk' _ => ?_, fun k nk hk' _ => ?_, fun k hk' => by rw [size_setCell]; exact h.lt k hk'⟩
  · rw [heap_setCell_other (fun e => h.ne_tree hob (by simp) e.symm)]; exact h.tree
  · obtain ⟨b', cap', cur, e, _, hg, h1, h2, h3, h4⟩ := h.nodes.shape (by omega)
    cases e
    refine ⟨⟨?_, .inr ⟨b, cap, _, by rw [List.length_set], Nat.zero_le _, heap_setCell hg, by rw [List.length_set]; exact h1, h2, by simpa using h3, ?_⟩⟩, fun k hk' => ?_⟩
    · rw [flat_len]
    · rw [List.length_set, cells_set_at hi hj hc, ← h4, Array.toList_setIfInBounds]
      rw [List.take_set]
    · simp [Value.ownBlock] at hk'; rw [← hk']; exact hob
  · by_cases e : k = i
    · subst e; rw [List.getElem?_set_self hlen] at hk'; cases hk'; exact hl.setCell hob (by simp)
    · rw [List.getElem?_set_ne (Ne.symm e)] at hk'
      exact (h.lines k nk hk' (by rcases hx with rfl | rfl | rfl <;> simp [e])).setCell hob (by simp)
  · by_cases e : k = i
    · subst e; rw [List.getElem?_set_self hlen] at hk'; cases hk'; exact hk.setCell hob (by simp)
    · rw [List.getElem?_set_ne (Ne.symm e)] at hk'
      exact (h.kids k nk hk' (by rcases hx with rfl | rfl | rfl <;> simp [e])).setCell hob (by simp)
/-- A free block gets an owner. -/
def give (o : Own) (k : Nat) (g : Tag) : Own := fun j => if j = k then g else o j
theorem Row.give {g g' : Tag} {e : TypeId} {size n k : Nat} {v : Value} {xs : List Value} (h : Row o w g e size v n xs) (hg : g ≠ .free) (hk : o k = .free) : Row (give o k g') w g e size v n xs :=
  h.own fun b hb => by unfold Go.Proofs.Ytfnhbjokokjhfab.give; rw [if_neg]; rintro rfl; exact hg (by rw [← h.2 b hb, hk])
theorem RepX.give (h : RepX x o w t s vn vg) {k : Nat} (hk : o k = .free) (hlt : k < w.heap.size) (g : Tag) : RepX x (give o k g) w t s vn vg := by
  refine ⟨?_, h.tree, h.nodes.give (by simp) hk, h.gone.give (by simp) hk, fun i n hi hx => (h.lines i n hi hx).give (by simp) hk, fun i n hi hx => (h.kids i n hi hx).give (by simp) hk, fun j hj => ?_⟩
  · unfold Go.Proofs.Ytfnhbjokokjhfab.give; rw [if_neg]; exact h.ot
    rintro rfl; rw [h.ot] at hk; cases hk
  · unfold Go.Proofs.Ytfnhbjokokjhfab.give at hj; by_cases e : j = k
    · rw [e]; exact hlt
    · rw [if_neg e] at hj; exact h.lt j hj
theorem Keeps.give {o0 : Own} {w0 : World} (h : Keeps o0 o w0 w) {k : Nat} (hk : w0.heap.size ≤ k) (g : Tag) : Keeps o0 (give o k g) w0 w :=
  ⟨h.os, h.tape, h.output, h.size, h.block, fun j hj hf => by unfold Go.Proofs.Ytfnhbjokokjhfab.give; rw [if_neg (by omega)]; exact h.own j hj hf⟩
theorem Keeps.setCell {o0 : Own} {w0 : World} (h : Keeps o0 o w0 w) {b off : Nat} {v : Value} (hb : o b ≠ .free) : Keeps o0 o w0 (w.setCell ⟨b, off, none⟩ v) :=
  h.trans ⟨rfl, rfl, rfl, by rw [size_setCell]; exact Nat.le_refl _, fun k _ hf => heap_setCell_other (fun e => hb (by rw [← e]; exact hf)), fun _ _ hf => hf⟩
theorem Keeps.alloc {o0 : Own} {w0 : World} (h : Keeps o0 o w0 w) (ob : Obj) : Keeps o0 o w0 (w.alloc ob) :=
  h.trans ⟨rfl, rfl, rfl, by simp, fun k hk _ => alloc_old' w ob k hk, fun _ _ hf => hf⟩
theorem Keeps.drew {o0 : Own} {w0 : World} (h : Keeps o0 o w0 w) : Keeps o0 o w0 w.drew := h.trans (Keeps.drewN o w 1)
theorem Keeps.drewN' {o0 : Own} {w0 : World} (h : Keeps o0 o w0 w) (n : Nat) : Keeps o0 o w0 (w.drewN n) := h.trans (Keeps.drewN o w n)
theorem RepX.alloc (h : RepX x o w t s vn vg) (ob : Obj) : RepX x o (w.alloc ob) t s vn vg := by
  have r : ∀ {g e size v n xs}, Row o w g e size v n xs → Row o (w.alloc ob) g e size v n xs := fun hr => hr.same fun k hk => alloc_old' w ob k (hr.lt hk)
  exact ⟨h.ot, by rw [alloc_old' w ob t h.tlt]; exact h.tree, r h.nodes, r h.gone, fun i n hi hx => r (h.lines i n hi hx), fun i n hi hx => r (h.kids i n hi hx), fun k hk => by have := h.lt k hk; simp; omega⟩
theorem RepX.drew (h : RepX x o w t s vn vg) : RepX x o w.drew t s vn vg := h.heap rfl
theorem RepX.drewN (h : RepX x o w t s vn vg) (n : Nat) : RepX x o (w.drewN n) t s vn vg := h.heap (drewN_heap w n)
theorem RepX.free_new (h : RepX x o w t s vn vg) {k : Nat} (hk : w.heap.size ≤ k) : o k = .free := by
  by_cases e : o k = .free
  · exact e
  · exact absurd (h.lt k e) (by omega)

/-- A store into the tree's struct. -/
theorem heap_tree {vn' vg' : Value} {top' : Nat} {j : Nat} {v : Value} (h : w.heap[t]? = some (.cells #[vn, vg, .int .i64 s.top] 45 (0, 0))) (hc : #[vn', vg', .int .i64 (top' : Int)] = (#[vn, vg, .int .i64 s.top] : Array Value).setIfInBounds j v) :
    (w.setCell ⟨t, j, none⟩ v).heap[t]? = some (.cells #[vn', vg', .int .i64 (top' : Int)] 45 (0, 0)) := by rw [heap_setCell h, hc]
theorem RepX.storeTop (h : RepX x o w t s vn vg) (top' : Nat) : RepX x o (w.setCell ⟨t, 2, none⟩ (.int .i64 top')) t { s with top := top' } vn vg := by
  have r : ∀ {g e size v n xs}, g ≠ .tree → Row o w g e size v n xs → Row o (w.setCell ⟨t, 2, none⟩ (.int .i64 top')) g e size v n xs := fun hg hr => hr.setCell h.ot (Ne.symm hg)
  exact ⟨h.ot, heap_tree (s := s) h.tree rfl, r (by simp) h.nodes, r (by simp) h.gone, fun i n hi hx => r (by simp) (h.lines i n hi hx), fun i n hi hx => r (by simp) (h.kids i n hi hx), fun k hk => by rw [size_setCell]; exact h.lt k hk⟩
/-- Another list of free numbers: its row has turned (KB .gone), and its value is stored. -/
theorem RepX.storeGone (h : RepX x o w t s vn vg) (k : KB .gone o o' w w') {vg' : Value} {gone' : List Nat} (hg : Row o' w' .gone 3 1 vg' gone'.length (nums gone')) : RepX x o' (w'.setCell ⟨t, 1, none⟩ vg') t { s with gone := gone' } vn vg' := by
  have hot : o' t = .tree := by rw [k.keep t h.tlt (by rw [h.ot]; simp), h.ot]
  have r : ∀ {g e size v n xs}, g ≠ .tree → g ≠ .gone → Row o w g e size v n xs → Row o' (w'.setCell ⟨t, 1, none⟩ vg') g e size v n xs := fun h1 h2 hr => (hr.kb k h2).setCell hot (Ne.symm h1)
  have ht : w'.heap[t]? = some (.cells #[vn, vg, .int .i64 s.top] 45 (0, 0)) := by rw [k.block t h.tlt (by rw [h.ot]; simp)]; exact h.tree
  exact ⟨hot, heap_tree (s := s) ht rfl, r (by simp) (by simp) h.nodes, hg.setCell hot (by simp), fun i n hi hx => r (by simp) (by simp) (h.lines i n hi hx), fun i n hi hx => r (by simp) (by simp) (h.kids i n hi hx), fun j hj => by rw [size_setCell]; exact k.lt j hj⟩
/-- Another list of nodes, whose rows are there. -/
theorem RepX.storeNodes (h : Rep o w t s vn vg) (k : KB .nodes o o' w w') {vn' : Value} {ns' : List Node} (hn : Row o' w' .nodes 53 4 vn' ns'.length (ns'.flatMap Node.cells))
    (hl : ∀ (i : Nat) n, ns'[i]? = some n → s.ns[i]? = some n ∨ n = nilNode) : Rep o' (w'.setCell ⟨t, 0, none⟩ vn') t { s with ns := ns' } vn' vg := by
  have hot : o' t = .tree := by rw [k.keep t h.tlt (by rw [h.ot]; simp), h.ot]
  have r : ∀ {g e size v n xs}, g ≠ .tree → g ≠ .nodes → Row o w g e size v n xs → Row o' (w'.setCell ⟨t, 0, none⟩ vn') g e size v n xs := fun h1 h2 hr => (hr.kb k h2).setCell hot (Ne.symm h1)
  have ht : w'.heap[t]? = some (.cells #[vn, vg, .int .i64 s.top] 45 (0, 0)) := by rw [k.block t h.tlt (by rw [h.ot]; simp)]; exact h.tree
  have rn : ∀ {g e}, Row o' (w'.setCell ⟨t, 0, none⟩ vn') g e 1 (.slice none 0 0) 0 [] := ⟨World.ownsRow_nil _ _ _ _, fun k hk => by simp [Value.ownBlock] at hk⟩
  refine ⟨hot, heap_tree (s := s) ht rfl, hn.setCell hot (by simp), r (by simp) (by simp) h.gone, fun i n hi _ => ?_, fun i n hi _ => ?_, fun j hj => by rw [size_setCell]; exact k.lt j hj⟩
  · rcases hl i n hi with h' | rfl
    · exact r (by simp) (by simp) (h.lines i n h' (by simp))
    · exact rn
  · rcases hl i n hi with h' | rfl
    · exact r (by simp) (by simp) (h.kids i n h' (by simp))
    · exact rn
end
/-- A row that an append has made, at its old block or at a new one. -/
theorem Row.grown {o : Own} {w w' : World} {g : Tag} {e : TypeId} {size n n' cap' : Nat} {v : Value} {xs xs' : List Value} {b' : Nat} (h : Row o w g e size v n xs) (hlt : ∀ k, o k ≠ .free → k < w.heap.size)
    (hown : w'.ownsRow 0 e size (.slice (some ⟨b', 0, none⟩) n' cap') n' xs') (hgr : w.grownBy w' v.ownBlock) (hat : v.ownBlock = some b' ∨ b' = w.heap.size) (hbl : b' < w'.heap.size) :
    ∃ o', Row o' w' g e size (.slice (some ⟨b', 0, none⟩) n' cap') n' xs' ∧ KB g o o' w w' := by
  have fr : ∀ k, w.heap.size ≤ k → o k = .free := fun k hk => by
    by_cases h : o k = .free
    · exact h
    · exact absurd (hlt k h) (by omega)
  rcases hat with hat | rfl
  · refine ⟨o, ⟨hown, fun k hk => ?_⟩, ⟨hgr.os, hgr.tape, hgr.output, hgr.size, fun k hk hn => hgr.block k hk (fun e => hn (h.2 k e.symm)), fun _ _ _ => rfl, fun _ => .inl rfl, fun k hk => .inr (fr k hk), fun _ _ h => .inl h, fun k hk => Nat.lt_of_lt_of_le (hlt k hk) hgr.size⟩⟩
    simp [Value.ownBlock] at hk; rw [← hk]; exact h.2 _ hat
  · refine ⟨moved o g w.heap.size, ⟨hown, fun k hk => ?_⟩, ⟨hgr.os, hgr.tape, hgr.output, hgr.size, fun k hk hn => hgr.block k hk (fun e => hn (h.2 k e.symm)), fun k hk hn => ?_, fun k => ?_, fun k hk => ?_, fun k hk h' => ?_, fun k hk => ?_⟩⟩
    · simp [Value.ownBlock] at hk; rw [← hk]; exact moved_self _ _ _
    · simp [moved, Nat.ne_of_lt hk, hn]
    · unfold moved; by_cases e : k = w.heap.size
      · simp [e]
      · by_cases h : o k = g <;> simp [e, h]
    · unfold moved; by_cases e : k = w.heap.size
      · simp [e]
      · rw [if_neg e, fr k hk]; by_cases h : Tag.free = g
        · rw [if_pos h]; exact .inr rfl
        · rw [if_neg h]; exact .inr rfl
    · unfold moved; rw [if_neg (by omega), if_pos h']; exact .inr rfl
    · by_cases e : k = w.heap.size
      · omega
      · unfold moved at hk; rw [if_neg e] at hk
        by_cases h : o k = g
        · rw [if_pos h] at hk; exact absurd rfl hk
        · rw [if_neg h] at hk; exact Nat.lt_of_lt_of_le (hlt k hk) hgr.size
end Go.Proofs.Ytfnhbjokokjhfab
