/- What a write into a block, or a new block, makes of the rows that lie in memory. -/
import Derived.Test.YtfnhbjokokjhfaaMem
namespace Go.Proofs.Ytfnhbjokokjhfaa
open Go.ChangeShapes Go.WideShapes Go.ChangeAt Go.RowKit

/-- From w to w' nothing has turned but what 'g' owns; what 'g' gave up is free; new blocks are g's or free. -/
structure KB (g : Tag) (o o' : Own) (w w' : World) : Prop where
  os : w'.os = w.os
  tape : w'.tape = w.tape
  output : w'.output = w.output
  size : w.heap.size ≤ w'.heap.size
  block : ∀ k, k < w.heap.size → o k ≠ g → w'.heap[k]? = w.heap[k]?
  keep : ∀ k, k < w.heap.size → o k ≠ g → o' k = o k
  mine : ∀ k, o' k = o k ∨ o' k = g ∨ o' k = .free
  new : ∀ k, w.heap.size ≤ k → o' k = g ∨ o' k = .free
  old : ∀ k, k < w.heap.size → o k = g → o' k = g ∨ o' k = .free
  lt : ∀ k, o' k ≠ .free → k < w'.heap.size

theorem KB.keeps {g : Tag} {o o' : Own} {w w' : World} (hg : g ≠ .free) (h : KB g o o' w w') : Keeps o o' w w' :=
  ⟨h.os, h.tape, h.output, h.size, fun k hk hf => h.block k hk (by rw [hf]; exact fun e => hg e.symm), fun k hk hf => by rw [h.keep k hk (by rw [hf]; exact fun e => hg e.symm), hf]⟩
theorem KB.trans {g : Tag} {o o1 o2 : Own} {w w1 w2 : World} (hg : g ≠ .free) (h : KB g o o1 w w1) (h' : KB g o1 o2 w1 w2) : KB g o o2 w w2 := by
  refine ⟨h'.os.trans h.os, h'.tape.trans h.tape, h'.output.trans h.output, Nat.le_trans h.size h'.size, fun k hk hf => ?_, fun k hk hf => ?_, fun k => ?_, fun k hk => ?_, fun k hk ho => ?_, h'.lt⟩
  · exact (h'.block k (Nat.lt_of_lt_of_le hk h.size) (by rw [h.keep k hk hf]; exact hf)).trans (h.block k hk hf)
  · exact (h'.keep k (Nat.lt_of_lt_of_le hk h.size) (by rw [h.keep k hk hf]; exact hf)).trans (h.keep k hk hf)
  · rcases h'.mine k with e | e | e
    · rw [e]; exact h.mine k
    · exact .inr (.inl e)
    · exact .inr (.inr e)
  · by_cases hk2 : k < w1.heap.size
    · rcases h.new k hk with e | e
      · exact h'.old k hk2 e
      · rw [h'.keep k hk2 (by rw [e]; exact fun e => hg e.symm)]; exact .inr e
    · exact h'.new k (by omega)
  · have hk2 := Nat.lt_of_lt_of_le hk h.size
    rcases h.old k hk ho with e | e
    · exact h'.old k hk2 e
    · rw [h'.keep k hk2 (by rw [e]; exact fun e => hg e.symm)]; exact .inr e

/-- Only draws. -/
theorem KB.same {g : Tag} {o : Own} {w w' : World} (ho : w'.os = w.os) (ht : w'.tape = w.tape) (hp : w'.output = w.output) (hh : w'.heap = w.heap) (hlt : ∀ k, o k ≠ .free → k < w.heap.size) : KB g o o w w' :=
  ⟨ho, ht, hp, by rw [hh]; exact Nat.le_refl _, fun _ _ _ => by rw [hh], fun _ _ _ => rfl, fun _ => .inl rfl,
   fun k hk => .inr (by by_cases h : o k = .free; · exact h
                        · exact absurd (hlt k h) (by omega)), fun k _ h => .inl h, fun k hk => by rw [hh]; exact hlt k hk⟩

theorem heap_setCell {w : World} {b off : Nat} {v : Value} {cur : Array Value} {e : TypeId} {fr : Nat × Nat} (hg : w.heap[b]? = some (.cells cur e fr)) :
    (w.setCell ⟨b, off, none⟩ v).heap[b]? = some (.cells (cur.setIfInBounds off v) e fr) := by
  have hlt : b < w.heap.size := (Array.getElem?_eq_some_iff.1 hg).1
  simp [World.setCell, Array.getElem?_modify, hg]
theorem heap_setCell_other {w : World} {b off k : Nat} {v : Value} (hk : k ≠ b) : (w.setCell ⟨b, off, none⟩ v).heap[k]? = w.heap[k]? := by
  simp [World.setCell, Array.getElem?_modify, Ne.symm hk]
theorem size_setCell (w : World) (a : Addr) (v : Value) : (w.setCell a v).heap.size = w.heap.size := by simp [World.setCell]

theorem set_take_drop (l : List Value) (o : Nat) (v : Value) (h : o < l.length) : l.set o v = l.take o ++ v :: l.drop (o + 1) := List.set_eq_take_append_cons_drop .. |>.trans (by rw [if_pos h])

theorem heap_setCells {b : Nat} {e : TypeId} {fr : Nat × Nat} : ∀ (vs : List Value) (off : Nat) (w : World) (cur : Array Value), w.heap[b]? = some (.cells cur e fr) → off + vs.length ≤ cur.size →
    (w.setCells b off vs).heap[b]? = some (.cells (splice cur.toList off vs).toArray e fr)
  | [], off, w, cur, hg, _ => by simpa [World.setCells, splice] using hg
  | v :: r, off, w, cur, hg, hf => by
    rw [World.setCells, heap_setCells r (off + 1) _ _ (heap_setCell hg) (by simp at hf ⊢; omega)]
    simp only [List.length_cons] at hf
    have h1 : off < cur.toList.length := by simp; omega
    congr 2
    simp only [splice, Array.toList_setIfInBounds]
    rw [set_take_drop _ _ _ h1]
    have h2 : (List.take off cur.toList).length = off := by simp; omega
    have h3 : List.take (off + 1) (List.take off cur.toList ++ v :: List.drop (off + 1) cur.toList) = List.take off cur.toList ++ [v] := by
      rw [List.take_append, h2]; simp [Nat.add_sub_cancel_left, List.take_take]
    have h4 : List.drop (off + 1 + r.length) (List.take off cur.toList ++ v :: List.drop (off + 1) cur.toList) = List.drop (off + (r.length + 1)) cur.toList := by
      rw [List.drop_append, h2, List.drop_eq_nil_of_le (by omega)]
      have : off + 1 + r.length - off = r.length + 1 := by omega
      rw [this, List.drop_succ_cons, List.drop_drop, List.nil_append]; congr 1; omega
    rw [h3, h4]; simp
theorem setCells_other {b k : Nat} (hk : k ≠ b) : ∀ (vs : List Value) (off : Nat) (w : World), (w.setCells b off vs).heap[k]? = w.heap[k]?
  | [], _, _ => rfl
  | v :: r, off, w => by rw [World.setCells, setCells_other hk r (off + 1) _, heap_setCell_other hk]
theorem size_setCells {b : Nat} : ∀ (vs : List Value) (off : Nat) (w : World), (w.setCells b off vs).heap.size = w.heap.size
  | [], _, _ => rfl
  | v :: r, off, w => by rw [World.setCells, size_setCells r (off + 1) _, size_setCell]
theorem setCells_rest {b : Nat} : ∀ (vs : List Value) (off : Nat) (w : World), (w.setCells b off vs).os = w.os ∧ (w.setCells b off vs).tape = w.tape ∧ (w.setCells b off vs).output = w.output
  | [], _, _ => ⟨rfl, rfl, rfl⟩
  | v :: r, off, w => by rw [World.setCells]; exact setCells_rest r (off + 1) _

/-- A write into a block of g's. -/
theorem KB.setCells {g : Tag} {o : Own} {w : World} {b : Nat} (hb : o b = g) (hlt : ∀ k, o k ≠ .free → k < w.heap.size) (off : Nat) (vs : List Value) : KB g o o w (w.setCells b off vs) := by
  obtain ⟨h1, h2, h3⟩ := setCells_rest (b := b) vs off w
  refine ⟨h1, h2, h3, by rw [size_setCells]; exact Nat.le_refl _, fun k _ hk => setCells_other (fun e => hk (by rw [e]; exact hb)) _ _ _, fun _ _ _ => rfl, fun _ => .inl rfl, fun k hk => ?_, fun k _ h => .inl h, fun k hk => by rw [size_setCells]; exact hlt k hk⟩
  by_cases h : o k = .free
  · exact .inr h
  · exact absurd (hlt k h) (by omega)

/-- g moves to block 'k'. -/
def moved (o : Own) (g : Tag) (k : Nat) : Own := fun j => if j = k then g else if o j = g then .free else o j
/-- A new block, which is g's from now on. -/
theorem KB.alloc {g : Tag} {o : Own} {w w' : World} (ho : w'.os = w.os) (ht : w'.tape = w.tape) (hp : w'.output = w.output) (hs : w'.heap.size = w.heap.size + 1)
    (hold : ∀ k, k < w.heap.size → w'.heap[k]? = w.heap[k]?) (hlt : ∀ k, o k ≠ .free → k < w.heap.size) : KB g o (moved o g w.heap.size) w w' := by
  have fr : ∀ k, w.heap.size ≤ k → o k = .free := fun k hk => by
    by_cases h : o k = .free
    · exact h
    · exact absurd (hlt k h) (by omega)
  refine ⟨ho, ht, hp, by omega, fun k hk _ => hold k hk, fun k hk hn => ?_, fun k => ?_, fun k hk => ?_, fun k hk h => ?_, fun k hk => ?_⟩
  · simp [moved, Nat.ne_of_lt hk, hn]
  · unfold moved; by_cases e : k = w.heap.size
    · simp [e]
    · by_cases h : o k = g <;> simp [e, h]
  · unfold moved; by_cases e : k = w.heap.size
    · simp [e]
    · rw [if_neg e, fr k hk]; by_cases h : Tag.free = g
      · rw [if_pos h]; exact .inr rfl
      · rw [if_neg h]; exact .inr rfl
  · unfold moved; rw [if_neg (by omega), if_pos h]; exact .inr rfl
  · by_cases e : k = w.heap.size
    · omega
    · unfold moved at hk; rw [if_neg e] at hk
      by_cases h : o k = g
      · rw [if_pos h] at hk; exact absurd rfl hk
      · rw [if_neg h] at hk; have := hlt k hk; omega
end Go.Proofs.Ytfnhbjokokjhfaa
