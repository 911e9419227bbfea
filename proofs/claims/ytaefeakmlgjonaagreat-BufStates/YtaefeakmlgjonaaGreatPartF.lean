/- Texts that the proof of the law stands on: TzMem, TzRowk, TzShelf, TzSlices, TzUpd, TzFns1, TzFns2, TzFns3, TzFns4. -/
import Derived.Test.YtaefeakmlgjonaaGreatRows
import Derived.WalkKit
import Derived.ProofKit
import Derived.OpenShut
import Derived.BigQuiet
import Derived.Deep.QuietTactic
import Derived.Below
import Derived.LoopTactic
import Derived.RegionTactic
import Derived.Deep.RegionLaw
import Derived.Laws.AppendOwn
import Derived.Laws.CopyOwn
import Derived.Ground.Names2Prog
import Derived.Shelf.Slices.Clone
import Derived.Shelf.Slices.Delete
import Derived.Shelf.Spec.SlicesInsert
import Derived.Shelf.Spec.SlicesInsertGrow
import Derived.Test.YtaefeakmlgjonaaGreatProg
import Derived.Lib.RowBridge
import Derived.Deep.AppendLies
import Derived.BigRegion
import Derived.Deep.MidRow
/- What it means that memory holds a tree: its struct, its list of nodes, the list of numbers that are free, each node's lines and kids, all in blocks of their own ('o' says whose a block is). -/
namespace Go.Proofs.YtaefeakmlgjonaaGreat.Tz
open Go.ChangeShapes Go.WideShapes Go.ChangeAt Go.RowKit
set_option linter.unusedVariables false
set_option maxRecDepth 100000

/-- Whose a block is. -/
inductive Tag where
  | free | tree | nodes | gone | lines (i : Nat) | kids (i : Nat)
deriving DecidableEq

abbrev Own := Nat → Tag

structure Node where
  vl : Value
  vk : Value
  lines : List ByteArray
  kids : List Nat
  count : Nat
  bytes : Nat

def Node.cells (n : Node) : List Value := [n.vl, n.vk, .int .i64 n.count, .int .i64 n.bytes]
def nilNode : Node := ⟨.slice none 0 0, .slice none 0 0, [], [], 0, 0⟩

structure St where
  ns : List Node
  gone : List Nat
  top : Nat

def strs (l : List ByteArray) : List Value := l.map Value.string
def nums (l : List Nat) : List Value := l.map fun (n : Nat) => Value.int .i64 n

/-- The slice 'v' of 'n' elements (type 'e', 'size' cells each) holds the cells 'xs', in a block of owner 'g' that begins with it. -/
def Row (o : Own) (w : World) (g : Tag) (e : TypeId) (size : Nat) (v : Value) (n : Nat) (xs : List Value) : Prop :=
  w.ownsRow 0 e size v n xs ∧ ∀ k, v.ownBlock = some k → o k = g

/-- Memory holds the tree 's' at block 't'; of the rows of owner 'x' nothing is said. -/
structure RepX (x : Tag) (o : Own) (w : World) (t : Nat) (s : St) (vn vg : Value) : Prop where
  ot : o t = .tree
  tree : w.heap[t]? = some (.cells #[vn, vg, .int .i64 s.top] 144 (0, 0))
  nodes : Row o w .nodes 141 4 vn s.ns.length (s.ns.flatMap Node.cells)
  gone : Row o w .gone 3 1 vg s.gone.length (nums s.gone)
  lines : ∀ i n, s.ns[i]? = some n → .lines i ≠ x → Row o w (.lines i) 9 1 n.vl n.lines.length (strs n.lines)
  kids : ∀ i n, s.ns[i]? = some n → .kids i ≠ x → Row o w (.kids i) 3 1 n.vk n.kids.length (nums n.kids)
  lt : ∀ k, o k ≠ .free → k < w.heap.size

/-- .. with no row left out. -/
abbrev Rep (o : Own) (w : World) (t : Nat) (s : St) (vn vg : Value) : Prop := RepX .free o w t s vn vg

/-- From w to w' nothing has turned that was free; what was free is free. -/
structure Keeps (o o' : Own) (w w' : World) : Prop where
  os : w'.os = w.os
  tape : w'.tape = w.tape
  output : w'.output = w.output
  size : w.heap.size ≤ w'.heap.size
  block : ∀ k, k < w.heap.size → o k = .free → w'.heap[k]? = w.heap[k]?
  own : ∀ k, k < w.heap.size → o k = .free → o' k = .free

theorem Keeps.refl (o : Own) (w : World) : Keeps o o w w := ⟨rfl, rfl, rfl, Nat.le_refl _, fun _ _ _ => rfl, fun _ _ h => h⟩
theorem Keeps.trans {o o' o'' : Own} {w w' w'' : World} (h : Keeps o o' w w') (h' : Keeps o' o'' w' w'') : Keeps o o'' w w'' :=
  ⟨h'.os.trans h.os, h'.tape.trans h.tape, h'.output.trans h.output, Nat.le_trans h.size h'.size,
   fun k hk hf => (h'.block k (Nat.lt_of_lt_of_le hk h.size) (h.own k hk hf)).trans (h.block k hk hf),
   fun k hk hf => h'.own k (Nat.lt_of_lt_of_le hk h.size) (h.own k hk hf)⟩
theorem Keeps.below {o o' : Own} {w w' : World} {B : Nat} (h : Keeps o o' w w') (hB : B ≤ w.heap.size) (hf : ∀ k, k < B → o k = .free) : Below B w w' :=
  ⟨h.os, h.tape, h.output, h.size, fun k hk => h.block k (by omega) (hf k hk)⟩

theorem Row.same {o : Own} {w w' : World} {g : Tag} {e : TypeId} {size n : Nat} {v : Value} {xs : List Value} (h : Row o w g e size v n xs)
    (hs : ∀ k, v.ownBlock = some k → w'.heap[k]? = w.heap[k]?) : Row o w' g e size v n xs := by
  refine ⟨⟨h.1.1, ?_⟩, h.2⟩
  rcases h.1.2 with hn | ⟨b, cap, cur, rfl, hb, hg, rest⟩
  · exact .inl hn
  · exact .inr ⟨b, cap, cur, rfl, hb, (hs b rfl).trans hg, rest⟩
theorem Row.own {o o' : Own} {w : World} {g : Tag} {e : TypeId} {size n : Nat} {v : Value} {xs : List Value} (h : Row o w g e size v n xs)
    (hs : ∀ k, v.ownBlock = some k → o' k = o k) : Row o' w g e size v n xs := ⟨h.1, fun k hk => (hs k hk).trans (h.2 k hk)⟩
theorem Row.lt {o : Own} {w : World} {g : Tag} {e : TypeId} {size n : Nat} {v : Value} {xs : List Value} (h : Row o w g e size v n xs) {k : Nat} (hk : v.ownBlock = some k) : k < w.heap.size := (h.1.lt k hk).2
theorem Row.shape {o : Own} {w : World} {g : Tag} {e : TypeId} {size n : Nat} {v : Value} {xs : List Value} (h : Row o w g e size v n xs) (hn : 0 < n) :
    ∃ b cap cur, v = .slice (some ⟨b, 0, none⟩) n cap ∧ o b = g ∧ w.heap[b]? = some (.cells cur e (0, 0)) ∧ n ≤ cap ∧ cap ≤ maxLen ∧ cur.size = cap * size ∧ cur.toList.take (n * size) = xs := by
  rcases h.1.2 with ⟨_, h0⟩ | ⟨b, cap, cur, rfl, hb, hg, rest⟩
  · omega
  · exact ⟨b, cap, cur, rfl, h.2 b rfl, hg, rest⟩
/-- The slice's value, whichever it is. -/
theorem Row.form {o : Own} {w : World} {g : Tag} {e : TypeId} {size n : Nat} {v : Value} {xs : List Value} (h : Row o w g e size v n xs) :
    ∃ a cap, v = .slice a n cap ∧ n ≤ cap ∧ cap ≤ maxLen := by
  rcases h.1.2 with ⟨rfl, rfl⟩ | ⟨b, cap, cur, rfl, hb, hg, h1, h2, rest⟩
  · exact ⟨none, 0, rfl, Nat.le_refl _, by simp [maxLen]⟩
  · exact ⟨_, cap, rfl, h1, h2⟩
theorem row_cell {w : World} {b size n cap : Nat} {e : TypeId} {cur : Array Value} {xs : List Value} (hg : w.heap[b]? = some (.cells cur e (0, 0))) (ht : cur.toList.take (n * size) = xs) {j : Nat} {v : Value} (hj : xs[j]? = some v) :
    w.cell? ⟨b, j, none⟩ = some v ∧ w.frozen? ⟨b, j, none⟩ = false := by
  subst ht
  have h2 : cur[j]? = some v := by
    rw [List.getElem?_take] at hj
    split at hj
    · simpa using hj
    · cases hj
  exact ⟨by simp [World.cell?, hg, h2], by simp [World.frozen?, hg]⟩

theorem flat_get {ns : List Node} {i : Nat} {n : Node} (h : ns[i]? = some n) (j : Nat) (hj : j < 4) : (ns.flatMap Node.cells)[i * 4 + j]? = n.cells[j]? := by
  induction ns generalizing i with
  | nil => simp at h
  | cons m ms ih =>
    rw [List.flatMap_cons]
    cases i with
    | zero =>
      simp at h; subst h
      rw [List.getElem?_append_left (by simp [Node.cells]; omega)]
      simp
    | succ i =>
      simp at h
      rw [List.getElem?_append_right (by simp [Node.cells]; omega)]
      have : (i + 1) * 4 + j - m.cells.length = i * 4 + j := by simp [Node.cells]; omega
      rw [this]; exact ih h
theorem flat_len (ns : List Node) : (ns.flatMap Node.cells).length = ns.length * 4 := by
  induction ns with
  | nil => rfl
  | cons m ms ih => rw [List.flatMap_cons, List.length_append, ih]; simp [Node.cells]; omega

section
variable {x : Tag} {o : Own} {w : World} {t : Nat} {s : St} {vn vg : Value}
theorem RepX.at0 (h : RepX x o w t s vn vg) : w.cell? ⟨t, 0, none⟩ = some vn := by simp [World.cell?, h.tree]
theorem RepX.at1 (h : RepX x o w t s vn vg) : w.cell? ⟨t, 1, none⟩ = some vg := by simp [World.cell?, h.tree]
theorem RepX.at2 (h : RepX x o w t s vn vg) : w.cell? ⟨t, 2, none⟩ = some (.int .i64 s.top) := by simp [World.cell?, h.tree]
theorem RepX.atF (h : RepX x o w t s vn vg) (j : Nat) : w.frozen? ⟨t, j, none⟩ = false := by simp [World.frozen?, h.tree]
theorem RepX.tlt (h : RepX x o w t s vn vg) : t < w.heap.size := h.lt t (by rw [h.ot]; simp)
/-- The nodes' slice and the cells of each node. -/
theorem RepX.nodeCells (h : RepX x o w t s vn vg) (hn : 0 < s.ns.length) : ∃ b cap, vn = .slice (some ⟨b, 0, none⟩) s.ns.length cap ∧ o b = .nodes ∧ s.ns.length ≤ cap ∧ cap ≤ maxLen ∧
    ∀ i n, s.ns[i]? = some n → (w.cell? ⟨b, i * 4, none⟩ = some n.vl ∧ w.cell? ⟨b, i * 4 + 1, none⟩ = some n.vk ∧ w.cell? ⟨b, i * 4 + 2, none⟩ = some (.int .i64 n.count) ∧ w.cell? ⟨b, i * 4 + 3, none⟩ = some (.int .i64 n.bytes)) ∧
      (∀ j, j < 4 → w.frozen? ⟨b, i * 4 + j, none⟩ = false) := by
  obtain ⟨b, cap, cur, rfl, ho, hg, h1, h2, h3, h4⟩ := h.nodes.shape hn
  refine ⟨b, cap, rfl, ho, h1, h2, fun i n hi => ?_⟩
  have c : ∀ j v, j < 4 → n.cells[j]? = some v → w.cell? ⟨b, i * 4 + j, none⟩ = some v := fun j v hj hv => (row_cell hg h4 (cap := cap) ((flat_get hi j hj).trans hv)).1
  refine ⟨⟨c 0 _ (by omega) rfl, c 1 _ (by omega) rfl, c 2 _ (by omega) rfl, c 3 _ (by omega) rfl⟩, fun j _ => by simp [World.frozen?, hg]⟩
/-- Worlds of one heap hold the same. -/
theorem RepX.heap (h : RepX x o w t s vn vg) {w' : World} (he : w'.heap = w.heap) : RepX x o w' t s vn vg := by
  have r : ∀ {g e size v n xs}, Row o w g e size v n xs → Row o w' g e size v n xs := fun hr => hr.same fun k _ => by rw [he]
  exact ⟨h.ot, by rw [he]; exact h.tree, r h.nodes, r h.gone, fun i n hi hx => r (h.lines i n hi hx), fun i n hi hx => r (h.kids i n hi hx), fun k hk => by rw [he]; exact h.lt k hk⟩
end
theorem drewN_heap (w : World) (n : Nat) : (w.drewN n).heap = w.heap := by induction n generalizing w <;> simp_all [World.drewN]
theorem Keeps.drewN (o : Own) (w : World) (n : Nat) : Keeps o o w (w.drewN n) := by
  refine ⟨?_, ?_, ?_, by rw [drewN_heap]; exact Nat.le_refl _, fun _ _ _ => by rw [drewN_heap], fun _ _ h => h⟩
  all_goals (induction n generalizing w <;> simp_all [World.drewN])

end Go.Proofs.YtaefeakmlgjonaaGreat.Tz
/- What a write into a block, or a new block, makes of the rows that lie in memory. -/
namespace Go.Proofs.YtaefeakmlgjonaaGreat.Tz
set_option maxRecDepth 100000
open Go.ChangeShapes Go.WideShapes Go.ChangeAt Go.RowKit

/-- From w to w' nothing has turned but what 'g' owns; what 'g' gave up is free; new blocks are g's or free. -/
structure KB (g : Tag) (o o' : Own) (w w' : World) : Prop where
  os : w'.os = w.os
  tape : w'.tape = w.tape
  output : w'.output = w.output
  size : w.heap.size ≤ w'.heap.size
  block : ∀ k, k < w.heap.size → o k ≠ g → w'.heap[k]? = w.heap[k]?
  keep : ∀ k, k < w.heap.size → o k ≠ g → o' k = o k
  mine : ∀ k, o' k = o k ∨ o' k = g ∨ o' k = .free
  new : ∀ k, w.heap.size ≤ k → o' k = g ∨ o' k = .free
  old : ∀ k, k < w.heap.size → o k = g → o' k = g ∨ o' k = .free
  lt : ∀ k, o' k ≠ .free → k < w'.heap.size

theorem KB.keeps {g : Tag} {o o' : Own} {w w' : World} (hg : g ≠ .free) (h : KB g o o' w w') : Keeps o o' w w' :=
  ⟨h.os, h.tape, h.output, h.size, fun k hk hf => h.block k hk (by rw [hf]; exact fun e => hg e.symm), fun k hk hf => by rw [h.keep k hk (by rw [hf]; exact fun e => hg e.symm), hf]⟩
theorem KB.trans {g : Tag} {o o1 o2 : Own} {w w1 w2 : World} (hg : g ≠ .free) (h : KB g o o1 w w1) (h' : KB g o1 o2 w1 w2) : KB g o o2 w w2 := by
  refine ⟨h'.os.trans h.os, h'.tape.trans h.tape, h'.output.trans h.output, Nat.le_trans h.size h'.size, fun k hk hf => ?_, fun k hk hf => ?_, fun k => ?_, fun k hk => ?_, fun k hk ho => ?_, h'.lt⟩
  · exact (h'.block k (Nat.lt_of_lt_of_le hk h.size) (by rw [h.keep k hk hf]; exact hf)).trans (h.block k hk hf)
  · exact (h'.keep k (Nat.lt_of_lt_of_le hk h.size) (by rw [h.keep k hk hf]; exact hf)).trans (h.keep k hk hf)
  · rcases h'.mine k with e | e | e
    · rw [e]; exact h.mine k
    · exact .inr (.inl e)
    · exact .inr (.inr e)
  · by_cases hk2 : k < w1.heap.size
    · rcases h.new k hk with e | e
      · exact h'.old k hk2 e
      · rw [h'.keep k hk2 (by rw [e]; exact fun e => hg e.symm)]; exact .inr e
    · exact h'.new k (by omega)
  · have hk2 := Nat.lt_of_lt_of_le hk h.size
    rcases h.old k hk ho with e | e
    · exact h'.old k hk2 e
    · rw [h'.keep k hk2 (by rw [e]; exact fun e => hg e.symm)]; exact .inr e

/-- Only draws. -/
theorem KB.same {g : Tag} {o : Own} {w w' : World} (ho : w'.os = w.os) (ht : w'.tape = w.tape) (hp : w'.output = w.output) (hh : w'.heap = w.heap) (hlt : ∀ k, o k ≠ .free → k < w.heap.size) : KB g o o w w' :=
  ⟨ho, ht, hp, by rw [hh]; exact Nat.le_refl _, fun _ _ _ => by rw [hh], fun _ _ _ => rfl, fun _ => .inl rfl,
   fun k hk => .inr (by by_cases h : o k = .free; · exact h
                        · exact absurd (hlt k h) (by omega)), fun k _ h => .inl h, fun k hk => by rw [hh]; exact hlt k hk⟩

theorem heap_setCell {w : World} {b off : Nat} {v : Value} {cur : Array Value} {e : TypeId} {fr : Nat × Nat} (hg : w.heap[b]? = some (.cells cur e fr)) :
    (w.setCell ⟨b, off, none⟩ v).heap[b]? = some (.cells (cur.setIfInBounds off v) e fr) := by
  have hlt : b < w.heap.size := (Array.getElem?_eq_some_iff.1 hg).1
  simp [World.setCell, Array.getElem?_modify, hg]
theorem heap_setCell_other {w : World} {b off k : Nat} {v : Value} (hk : k ≠ b) : (w.setCell ⟨b, off, none⟩ v).heap[k]? = w.heap[k]? := by
  simp [World.setCell, Array.getElem?_modify, Ne.symm hk]
theorem size_setCell (w : World) (a : Addr) (v : Value) : (w.setCell a v).heap.size = w.heap.size := by simp [World.setCell]

theorem set_take_drop (l : List Value) (o : Nat) (v : Value) (h : o < l.length) : l.set o v = l.take o ++ v :: l.drop (o + 1) := List.set_eq_take_append_cons_drop .. |>.trans (by rw [if_pos h])

theorem heap_setCells {b : Nat} {e : TypeId} {fr : Nat × Nat} : ∀ (vs : List Value) (off : Nat) (w : World) (cur : Array Value), w.heap[b]? = some (.cells cur e fr) → off + vs.length ≤ cur.size →
    (w.setCells b off vs).heap[b]? = some (.cells (splice cur.toList off vs).toArray e fr)
  | [], off, w, cur, hg, _ => by simpa [World.setCells, splice] using hg
  | v :: r, off, w, cur, hg, hf => by
    rw [World.setCells, heap_setCells r (off + 1) _ _ (heap_setCell hg) (by simp at hf ⊢; omega)]
    simp only [List.length_cons] at hf
    have h1 : off < cur.toList.length := by simp; omega
    congr 2
    simp only [splice, Array.toList_setIfInBounds]
    rw [set_take_drop _ _ _ h1]
    have h2 : (List.take off cur.toList).length = off := by simp; omega
    have h3 : List.take (off + 1) (List.take off cur.toList ++ v :: List.drop (off + 1) cur.toList) = List.take off cur.toList ++ [v] := by
      rw [List.take_append, h2]; simp [Nat.add_sub_cancel_left, List.take_take]
    have h4 : List.drop (off + 1 + r.length) (List.take off cur.toList ++ v :: List.drop (off + 1) cur.toList) = List.drop (off + (r.length + 1)) cur.toList := by
      rw [List.drop_append, h2, List.drop_eq_nil_of_le (by omega)]
      have : off + 1 + r.length - off = r.length + 1 := by omega
      rw [this, List.drop_succ_cons, List.drop_drop, List.nil_append]; congr 1; omega
    rw [h3, h4]; simp
theorem setCells_other {b k : Nat} (hk : k ≠ b) : ∀ (vs : List Value) (off : Nat) (w : World), (w.setCells b off vs).heap[k]? = w.heap[k]?
  | [], _, _ => rfl
  | v :: r, off, w => by rw [World.setCells, setCells_other hk r (off + 1) _, heap_setCell_other hk]
theorem size_setCells {b : Nat} : ∀ (vs : List Value) (off : Nat) (w : World), (w.setCells b off vs).heap.size = w.heap.size
  | [], _, _ => rfl
  | v :: r, off, w => by rw [World.setCells, size_setCells r (off + 1) _, size_setCell]
theorem setCells_rest {b : Nat} : ∀ (vs : List Value) (off : Nat) (w : World), (w.setCells b off vs).os = w.os ∧ (w.setCells b off vs).tape = w.tape ∧ (w.setCells b off vs).output = w.output
  | [], _, _ => ⟨rfl, rfl, rfl⟩
  | v :: r, off, w => by rw [World.setCells]; exact setCells_rest r (off + 1) _

/-- A write into a block of g's. -/
theorem KB.setCells {g : Tag} {o : Own} {w : World} {b : Nat} (hb : o b = g) (hlt : ∀ k, o k ≠ .free → k < w.heap.size) (off : Nat) (vs : List Value) : KB g o o w (w.setCells b off vs) := by
  obtain ⟨h1, h2, h3⟩ := setCells_rest (b := b) vs off w
  refine ⟨h1, h2, h3, by rw [size_setCells]; exact Nat.le_refl _, fun k _ hk => setCells_other (fun e => hk (by rw [e]; exact hb)) _ _ _, fun _ _ _ => rfl, fun _ => .inl rfl, fun k hk => ?_, fun k _ h => .inl h, fun k hk => by rw [size_setCells]; exact hlt k hk⟩
  by_cases h : o k = .free
  · exact .inr h
  · exact absurd (hlt k h) (by omega)

/-- g moves to block 'k'. -/
def moved (o : Own) (g : Tag) (k : Nat) : Own := fun j => if j = k then g else if o j = g then .free else o j
/-- A new block, which is g's from now on. -/
theorem KB.alloc {g : Tag} {o : Own} {w w' : World} (ho : w'.os = w.os) (ht : w'.tape = w.tape) (hp : w'.output = w.output) (hs : w'.heap.size = w.heap.size + 1)
    (hold : ∀ k, k < w.heap.size → w'.heap[k]? = w.heap[k]?) (hlt : ∀ k, o k ≠ .free → k < w.heap.size) : KB g o (moved o g w.heap.size) w w' := by
  have fr : ∀ k, w.heap.size ≤ k → o k = .free := fun k hk => by
    by_cases h : o k = .free
    · exact h
    · exact absurd (hlt k h) (by omega)
  refine ⟨ho, ht, hp, by omega, fun k hk _ => hold k hk, fun k hk hn => ?_, fun k => ?_, fun k hk => ?_, fun k hk h => ?_, fun k hk => ?_⟩
  · simp [moved, Nat.ne_of_lt hk, hn]
  · unfold moved; by_cases e : k = w.heap.size
    · simp [e]
    · by_cases h : o k = g <;> simp [e, h]
  · unfold moved; by_cases e : k = w.heap.size
    · simp [e]
    · rw [if_neg e, fr k hk]; by_cases h : Tag.free = g
      · rw [if_pos h]; exact .inr rfl
      · rw [if_neg h]; exact .inr rfl
  · unfold moved; rw [if_neg (by omega), if_pos h]; exact .inr rfl
  · by_cases e : k = w.heap.size
    · omega
    · unfold moved at hk; rw [if_neg e] at hk
      by_cases h : o k = g
      · rw [if_pos h] at hk; exact absurd rfl hk
      · rw [if_neg h] at hk; have := hlt k hk; omega
end Go.Proofs.YtaefeakmlgjonaaGreat.Tz
/-
  DERIVED: THE SHELF's CONTRACTS AT THIS DUMP, IN PLAIN WORDS (tools/lay-plain.mjs out of 'YtaefeakmlgjonaaGreatTzShelf.lean', which tools/lay-shelf.mjs wrote): THE SAME DECLARATIONS UNDER THE SAME NAMES: 'import', 'namespace', 'open', 'def', 'theorem' AND NOTHING ELSE: no command of the shelf's: FOR A HAND-IN. Each laying: the table of numbers ('.._ren') and one theorem, a field a fact of the dump's own or the kernel's comparison; each contract: ONE APPLICATION.
-/
namespace Go.Proofs
open Go.Shelf
def Tryz.lays15_ren : Go.Shelf.Ren := ⟨fun | 15 => 223 | n => n, fun | 22 => 120 | 3 => 3 | 4 => 4 | n => n, fun | n => n⟩
theorem Tryz.lays15 : Go.Proofs.Lays2.n15 Tryz.prog Tryz.lays15_ren := {
  mixed := by kernel_rfl
  f15 := Tryz.func223.trans (congrArg some (by kernel_rfl))
  t3 := Tryz.underlying3
  a3 := Tryz.isAgg3
  z3 := Tryz.sizeOf3
  v3 := Tryz.zeroValue3
  t4 := Tryz.underlying4
  a4 := Tryz.isAgg4
  z4 := Tryz.sizeOf4
  v4 := Tryz.zeroValue4
  t22 := Tryz.underlying120
  a22 := Tryz.isAgg120
  z22 := Tryz.sizeOf120
  v22 := Tryz.zeroValue120
  i3 := by kernel_rfl }
def Tryz.lays16_ren : Go.Shelf.Ren := ⟨fun | 16 => 77 | n => n, fun | 24 => 22 | 9 => 9 | 4 => 4 | n => n, fun | n => n⟩
theorem Tryz.lays16 : Go.Proofs.Lays2.n16 Tryz.prog Tryz.lays16_ren := {
  mixed := by kernel_rfl
  f16 := Tryz.func77.trans (congrArg some (by kernel_rfl))
  t4 := Tryz.underlying4
  a4 := Tryz.isAgg4
  z4 := Tryz.sizeOf4
  v4 := Tryz.zeroValue4
  t9 := Tryz.underlying9
  a9 := Tryz.isAgg9
  z9 := Tryz.sizeOf9
  v9 := Tryz.zeroValue9
  t24 := Tryz.underlying22
  a24 := Tryz.isAgg22
  z24 := Tryz.sizeOf22
  v24 := Tryz.zeroValue22
  i9 := by kernel_rfl }
def Tryz.lays21_ren : Go.Shelf.Ren := ⟨fun | 21 => 219 | 27 => 224 | 28 => 225 | 35 => 226 | 39 => 161 | n => n, fun | 22 => 120 | 3 => 3 | 4 => 4 | 0 => 0 | n => n, fun | n => n⟩
theorem Tryz.lays21 : Go.Proofs.Lays2.n21 Tryz.prog Tryz.lays21_ren := {
  mixed := by kernel_rfl
  f21 := Tryz.func219.trans (congrArg some (by kernel_rfl))
  f27 := Tryz.func224.trans (congrArg some (by kernel_rfl))
  f28 := Tryz.func225.trans (congrArg some (by kernel_rfl))
  f35 := Tryz.func226.trans (congrArg some (by kernel_rfl))
  f39 := Tryz.func161.trans (congrArg some (by kernel_rfl))
  t0 := Tryz.underlying0
  a0 := Tryz.isAgg0
  z0 := Tryz.sizeOf0
  v0 := Tryz.zeroValue0
  t3 := Tryz.underlying3
  a3 := Tryz.isAgg3
  z3 := Tryz.sizeOf3
  v3 := Tryz.zeroValue3
  t4 := Tryz.underlying4
  a4 := Tryz.isAgg4
  z4 := Tryz.sizeOf4
  v4 := Tryz.zeroValue4
  t22 := Tryz.underlying120
  a22 := Tryz.isAgg120
  z22 := Tryz.sizeOf120
  v22 := Tryz.zeroValue120
  i3 := by kernel_rfl }
def Tryz.lays22_ren : Go.Shelf.Ren := ⟨fun | 22 => 179 | 29 => 195 | 30 => 196 | 36 => 211 | 17 => 220 | n => n, fun | 24 => 22 | 9 => 9 | 3 => 3 | 4 => 4 | 0 => 0 | n => n, fun | n => n⟩
theorem Tryz.lays22 : Go.Proofs.Lays2.n22 Tryz.prog Tryz.lays22_ren := {
  mixed := by kernel_rfl
  f17 := Tryz.func220.trans (congrArg some (by kernel_rfl))
  f22 := Tryz.func179.trans (congrArg some (by kernel_rfl))
  f29 := Tryz.func195.trans (congrArg some (by kernel_rfl))
  f30 := Tryz.func196.trans (congrArg some (by kernel_rfl))
  f36 := Tryz.func211.trans (congrArg some (by kernel_rfl))
  t0 := Tryz.underlying0
  a0 := Tryz.isAgg0
  z0 := Tryz.sizeOf0
  v0 := Tryz.zeroValue0
  t3 := Tryz.underlying3
  a3 := Tryz.isAgg3
  z3 := Tryz.sizeOf3
  v3 := Tryz.zeroValue3
  t4 := Tryz.underlying4
  a4 := Tryz.isAgg4
  z4 := Tryz.sizeOf4
  v4 := Tryz.zeroValue4
  t9 := Tryz.underlying9
  a9 := Tryz.isAgg9
  z9 := Tryz.sizeOf9
  v9 := Tryz.zeroValue9
  t24 := Tryz.underlying22
  a24 := Tryz.isAgg22
  z24 := Tryz.sizeOf22
  v24 := Tryz.zeroValue22
  i9 := by kernel_rfl }
def Tryz.lays23_ren : Go.Shelf.Ren := ⟨fun | 23 => 222 | n => n, fun | 22 => 120 | 3 => 3 | 4 => 4 | 0 => 0 | n => n, fun | n => n⟩
theorem Tryz.lays23 : Go.Proofs.Lays2.n23 Tryz.prog Tryz.lays23_ren := {
  mixed := by kernel_rfl
  f23 := Tryz.func222.trans (congrArg some (by kernel_rfl))
  t0 := Tryz.underlying0
  a0 := Tryz.isAgg0
  z0 := Tryz.sizeOf0
  v0 := Tryz.zeroValue0
  t3 := Tryz.underlying3
  a3 := Tryz.isAgg3
  z3 := Tryz.sizeOf3
  v3 := Tryz.zeroValue3
  t4 := Tryz.underlying4
  a4 := Tryz.isAgg4
  z4 := Tryz.sizeOf4
  v4 := Tryz.zeroValue4
  t22 := Tryz.underlying120
  a22 := Tryz.isAgg120
  z22 := Tryz.sizeOf120
  v22 := Tryz.zeroValue120
  i3 := by kernel_rfl }
def Tryz.lays24_ren : Go.Shelf.Ren := ⟨fun | 24 => 177 | n => n, fun | 24 => 22 | 9 => 9 | 3 => 3 | 4 => 4 | 0 => 0 | n => n, fun | n => n⟩
theorem Tryz.lays24 : Go.Proofs.Lays2.n24 Tryz.prog Tryz.lays24_ren := {
  mixed := by kernel_rfl
  f24 := Tryz.func177.trans (congrArg some (by kernel_rfl))
  t0 := Tryz.underlying0
  a0 := Tryz.isAgg0
  z0 := Tryz.sizeOf0
  v0 := Tryz.zeroValue0
  t3 := Tryz.underlying3
  a3 := Tryz.isAgg3
  z3 := Tryz.sizeOf3
  v3 := Tryz.zeroValue3
  t4 := Tryz.underlying4
  a4 := Tryz.isAgg4
  z4 := Tryz.sizeOf4
  v4 := Tryz.zeroValue4
  t9 := Tryz.underlying9
  a9 := Tryz.isAgg9
  z9 := Tryz.sizeOf9
  v9 := Tryz.zeroValue9
  t24 := Tryz.underlying22
  a24 := Tryz.isAgg22
  z24 := Tryz.sizeOf22
  v24 := Tryz.zeroValue22
  i9 := by kernel_rfl }
end Go.Proofs
/- slices.Insert of one element, slices.Delete and slices.Clone, at strings and at ints, of a slice that lies in a block of its owner's: what they return, and that nothing of others' has turned. -/
namespace Go.Proofs.YtaefeakmlgjonaaGreat.Tz
set_option maxRecDepth 100000
open Go.ChangeShapes Go.WideShapes Go.ChangeAt Go.RowKit
set_option linter.unusedSimpArgs false
open Go.Proofs (Tryz.lays15 Tryz.lays16 Tryz.lays21 Tryz.lays22 Tryz.lays23 Tryz.lays24)

theorem splice_two {L D C : List Value} {i n : Nat} {x : Value} (hC : L.take n = C) (hD : D = C.drop i) (hi : i < n) (hn : n + 1 ≤ L.length) :
    (splice (splice L (i + 1) D) i [x]).take (n + 1) = C.take i ++ x :: C.drop i ∧ (splice (splice L (i + 1) D) i [x]).length = L.length := by
  subst hC; subst hD
  have hd : ((L.take n).drop i).length = n - i := by simp; omega
  have h1 : splice L (i + 1) ((L.take n).drop i) = L.take (i + 1) ++ ((L.take n).drop i ++ L.drop (n + 1)) := by
    unfold splice; rw [hd, show i + 1 + (n - i) = n + 1 by omega]
  have hl : (splice L (i + 1) ((L.take n).drop i)).length = L.length := length_splice _ _ _ (by rw [hd]; omega)
  refine ⟨?_, by rw [length_splice _ _ _ (by rw [hl]; simp; omega), hl]⟩
  have e1 : (splice L (i + 1) ((L.take n).drop i)).take i = L.take i := by
    rw [h1, List.take_append_of_le_length (by simp; omega), List.take_take, Nat.min_eq_left (by omega)]
  have e2 : (splice L (i + 1) ((L.take n).drop i)).drop (i + 1) = (L.take n).drop i ++ L.drop (n + 1) := by
    rw [h1, List.drop_append_of_le_length (by simp; omega), List.drop_eq_nil_of_le (by rw [List.length_take]; omega), List.nil_append]
  rw [splice, e1]
  simp only [List.length_cons, List.length_nil, Nat.zero_add, List.singleton_append]
  have h5 : (L.take i ++ x :: (L.take n).drop i).length = n + 1 := by rw [List.length_append, List.length_cons, hd, List.length_take]; omega
  rw [e2, show L.take i ++ x :: ((L.take n).drop i ++ L.drop (n + 1)) = (L.take i ++ x :: (L.take n).drop i) ++ L.drop (n + 1) by simp, List.take_append_of_le_length (by omega), List.take_of_length_le (by omega), List.take_take, Nat.min_eq_left (by omega)]
theorem splice_end {L C : List Value} {n : Nat} {x : Value} (hC : L.take n = C) (hn : n + 1 ≤ L.length) : (splice L n [x]).take (n + 1) = C ++ [x] ∧ (splice L n [x]).length = L.length := by
  subst hC
  refine ⟨?_, length_splice _ _ _ (by simpa using hn)⟩
  have h0 : (L.take n).length = n := by simp; omega
  rw [splice, ← List.append_assoc, List.take_append_of_le_length (by simp; omega), List.take_of_length_le (by rw [List.length_append, h0]; simp)]
theorem splice_front {L N : List Value} {k : Nat} (h : k ≤ N.length) : (splice L 0 N).take k = N.take k := by
  simp [splice, List.take_append_of_le_length h]

/-- A row in its own block, behind writes to that block. -/
theorem Row.put {o : Own} {w' : World} {g : Tag} {e : TypeId} {b n' cap : Nat} {L xs' : List Value} (hb : o b = g) (hg : w'.heap[b]? = some (.cells L.toArray e (0, 0))) (hn : n' ≤ cap) (hm : cap ≤ maxLen)
    (hs : L.length = cap) (ht : L.take n' = xs') : Row o w' g e 1 (.slice (some ⟨b, 0, none⟩) n' cap) n' xs' := by
  refine ⟨⟨by rw [← ht, List.length_take]; omega, .inr ⟨b, cap, _, rfl, Nat.zero_le _, hg, hn, hm, by simp [hs], by simpa using ht⟩⟩, fun k hk => ?_⟩
  simp [Value.ownBlock] at hk; rw [← hk]; exact hb

theorem strs_one (l : List ByteArray) : ∀ v ∈ strs l, v.oneCell' = true := by
  intro v hv; obtain ⟨x, _, rfl⟩ := List.mem_map.1 hv; rfl
theorem nums_one (l : List Nat) : ∀ v ∈ nums l, v.oneCell' = true := by
  intro v hv; obtain ⟨x, _, rfl⟩ := List.mem_map.1 hv; rfl
theorem take_getElem? {L C : List Value} {n j : Nat} {v : Value} (hC : L.take n = C) (h : C[j]? = some v) : L[j]? = some v := by
  subst hC; rw [List.getElem?_take] at h; split at h
  · exact h
  · cases h
theorem cell_at {w : World} {b : Nat} {e : TypeId} {cur : Array Value} (hg : w.heap[b]? = some (.cells cur e (0, 0))) (j : Nat) : w.cell? ⟨b, j, none⟩ = cur[j]? := by simp [World.cell?, hg]
theorem frozen_at {w : World} {b : Nat} {e : TypeId} {cur : Array Value} (hg : w.heap[b]? = some (.cells cur e (0, 0))) (j : Nat) : w.frozen? ⟨b, j, none⟩ = false := by simp [World.frozen?, hg]
theorem alloc_new (w : World) (o : Obj) : (w.alloc o).heap[w.heap.size]? = some o := by show (w.heap.push o)[w.heap.size]? = _; simp
theorem alloc_old' (w : World) (o : Obj) (k : Nat) (h : k < w.heap.size) : (w.alloc o).heap[k]? = w.heap[k]? := by show (w.heap.push o)[k]? = _; rw [Array.getElem?_push_lt h, Array.getElem?_eq_getElem h]
theorem moved_self (o : Own) (g : Tag) (k : Nat) : moved o g k k = g := by simp [moved]
theorem zero_len (z : Value) (n : Nat) (hz : z.cells.size = 1) : (Builtin.zeroCells z.cells n).size = n := by rw [size_zeroCells, hz, Nat.mul_one]
theorem drewN_rest (w : World) (n : Nat) : (w.drewN n).os = w.os ∧ (w.drewN n).tape = w.tape ∧ (w.drewN n).output = w.output := by
  have k := Keeps.drewN (fun _ => Tag.free) w n; exact ⟨k.os, k.tape, k.output⟩

def zsS (l : List ByteArray) : List (List UInt8) := l.map fun b => b.data.toList
def zsI (l : List Nat) : List Int := l.map fun (n : Nat) => (n : Int)

theorem insS_any {o : Own} {w : World} {g : Tag} {v x : Value} {n i vb : Nat} {C : List Value} (hr : Row o w g 9 1 v n C) (h1 : ∀ u ∈ C, u.oneCell' = true) (hlt : ∀ k, o k ≠ .free → k < w.heap.size) (hg : g ≠ .free)
    (hi : i ≤ n) (hn : n < 1000000000) (hvb : w.heap[vb]? = some (.cells #[x] 9 (0, 0))) (hx : x.oneCell' = true) (hne : o vb = .free) :
    Calls Tryz.prog 179 #[v, .int .i64 i, .slice (some ⟨vb, 0, none⟩) 1 1] w fun e w' => ∃ v' o', e = .returned v' ∧ Row o' w' g 9 1 v' (n + 1) (C.take i ++ x :: C.drop i) ∧ KB g o o' w w' := by
  have hvs : ∀ (j : Nat) u, [x][j]? = some u → w.cell? ⟨vb, 0 + j, none⟩ = some u := by
    intro j u hj
    rw [Nat.zero_add, cell_at hvb]
    match j, hj with
    | 0, hj => simpa using hj
  have h1v : ∀ u ∈ [x], u.oneCell' = true := by intro u hu; simp at hu; rw [hu]; exact hx
  have hl : C.length = n := by simpa using hr.1.1
  rcases hr.1.2 with ⟨rfl, rfl⟩ | ⟨b, cap, cur, rfl, _, hb, hnc, hcm, hcs, htk⟩
  · obtain rfl : C = [] := List.eq_nil_of_length_eq_zero hl
    obtain rfl : i = 0 := by omega
    have H : Calls Tryz.prog 179 #[.slice none 0 0, .int .i64 ((0 : Nat) : Int), .slice (some ⟨vb, 0, none⟩) 1 1] w fun e w' => e = .returned (.slice (some ⟨w.heap.size, 0, none⟩) (0 + 1) (grownCap w (0 + 1) 0 9)) ∧
        w' = w.drew.alloc (.cells (([] ++ [x]).toArray ++ Builtin.zeroCells (Value.string ⟨#[]⟩).cells (grownCap w (0 + 1) 0 9 - (0 + 1))) 9) := Any2.slices_Insert_string_end_grow Tryz.lays22 none 0 0 vb 0 1 1 [] [x] w (by omega) (by omega) (by omega) (by omega) rfl rfl (fun _ => rfl) (fun a ha => by cases ha) hvs h1v
    refine H.mono ?_
    rintro e w' ⟨rfl, rfl⟩
    have hge := grownCap_ge w (0 + 1) 0 9
    have hmx := grownCap_le_maxLen w (0 + 1) 0 9 (by simp [maxLen])
    refine ⟨_, moved o g w.heap.size, rfl, ?_, KB.alloc rfl rfl rfl (by simp) (fun k hk => alloc_old' w.drew _ k hk) hlt⟩
    refine Row.put (L := [x] ++ (Builtin.zeroCells (Value.string ⟨#[]⟩).cells (grownCap w (0 + 1) 0 9 - (0 + 1))).toList) (moved_self _ _ _) ?_ hge hmx ?_ ?_
    · rw [show ([x] ++ (Builtin.zeroCells (Value.string ⟨#[]⟩).cells (grownCap w (0 + 1) 0 9 - (0 + 1))).toList).toArray = ([] ++ [x]).toArray ++ Builtin.zeroCells (Value.string ⟨#[]⟩).cells (grownCap w (0 + 1) 0 9 - (0 + 1)) by simp]
      exact alloc_new w.drew _
    · have hz := zero_len (Value.string ⟨#[]⟩) (grownCap w (0 + 1) 0 9 - (0 + 1)) rfl
      rw [List.length_append, List.length_singleton, Array.length_toList (xs := Builtin.zeroCells (Value.string ⟨#[]⟩).cells (grownCap w (0 + 1) 0 9 - (0 + 1))), hz]; omega
    · simp
  · simp only [Nat.mul_one] at hcs htk
    have hob : o b = g := hr.2 b rfl
    have hvne : vb ≠ b := fun e => hg (by rw [← hob, ← e]; exact hne)
    have hcell : ∀ j u, C[j]? = some u → w.cell? ⟨b, 0 + j, none⟩ = some u := fun j u hj => by rw [Nat.zero_add, cell_at hb]; simpa using take_getElem? htk hj
    have hcell2 : ∀ a, some (⟨b, 0, none⟩ : Addr) = some a → ∀ j u, C[j]? = some u → w.cell? (a.add j) = some u := by
      intro a ha j u hj; cases ha; rw [Addr.add_lit]; exact hcell j u hj
    unfold maxLen at hcm
    by_cases hin : i = n
    · subst hin
      by_cases hroom : i + 1 ≤ cap
      · have H := Any2.slices_Insert_string_end_room Tryz.lays22 b 0 i cap vb 0 1 1 [x] w (by omega) hroom (by omega) rfl (fun j hj => by rw [cell_at hb]; simp; omega) (fun j hj => frozen_at hb _) hvs h1v
        refine Calls.mono (show Calls Tryz.prog 179 #[.slice (some ⟨b, 0, none⟩) i cap, .int .i64 (i : Int), .slice (some ⟨vb, 0, none⟩) 1 1] w _ from H) ?_
        rintro e w' ⟨rfl, rfl⟩
        obtain ⟨s1, s2⟩ := splice_end (x := x) htk (by simp; omega)
        refine ⟨_, o, rfl, Row.put hob (heap_setCells [x] (0 + i) w cur hb (by simp; omega)) hroom (by unfold maxLen; omega) (by rw [Nat.zero_add, s2]; simpa using hcs) ?_, KB.setCells hob hlt _ _⟩
        rw [Nat.zero_add, s1, List.take_of_length_le (by omega), List.drop_eq_nil_of_le (by omega)]
      · have H : Calls Tryz.prog 179 #[.slice (some ⟨b, 0, none⟩) i cap, .int .i64 (i : Int), .slice (some ⟨vb, 0, none⟩) 1 1] w fun e w' => e = .returned (.slice (some ⟨w.heap.size, 0, none⟩) (i + 1) (grownCap w (i + 1) cap 9)) ∧
            w' = w.drew.alloc (.cells ((C ++ [x]).toArray ++ Builtin.zeroCells (Value.string ⟨#[]⟩).cells (grownCap w (i + 1) cap 9 - (i + 1))) 9) := Any2.slices_Insert_string_end_grow Tryz.lays22 (some ⟨b, 0, none⟩) i cap vb 0 1 1 C [x] w (by omega) hnc (by omega) (by omega) hl rfl (fun h => by cases h) hcell2 hvs h1v
        refine H.mono ?_
        rintro e w' ⟨rfl, rfl⟩
        have hge := grownCap_ge w (i + 1) cap 9
        have hmx := grownCap_le_maxLen w (i + 1) cap 9 (by unfold maxLen; omega)
        refine ⟨_, moved o g w.heap.size, rfl, ?_, KB.alloc rfl rfl rfl (by simp) (fun k hk => alloc_old' w.drew _ k hk) hlt⟩
        refine Row.put (L := (C ++ [x]) ++ (Builtin.zeroCells (Value.string ⟨#[]⟩).cells (grownCap w (i + 1) cap 9 - (i + 1))).toList) (moved_self _ _ _) ?_ hge hmx ?_ ?_
        · rw [show ((C ++ [x]) ++ (Builtin.zeroCells (Value.string ⟨#[]⟩).cells (grownCap w (i + 1) cap 9 - (i + 1))).toList).toArray = (C ++ [x]).toArray ++ Builtin.zeroCells (Value.string ⟨#[]⟩).cells (grownCap w (i + 1) cap 9 - (i + 1)) by simp]
          exact alloc_new w.drew _
        · have hz := zero_len (Value.string ⟨#[]⟩) (grownCap w (i + 1) cap 9 - (i + 1)) rfl
          rw [List.length_append, List.length_append, List.length_singleton, Array.length_toList (xs := Builtin.zeroCells (Value.string ⟨#[]⟩).cells (grownCap w (i + 1) cap 9 - (i + 1))), hz]; omega
        · rw [List.take_append_of_le_length (by simp; omega), List.take_of_length_le (by simp; omega), List.take_of_length_le (by omega), List.drop_eq_nil_of_le (by omega)]
    · by_cases hroom : n + 1 ≤ cap
      · have H := Any2.slices_Insert_string_shift Tryz.lays22 b 0 n cap i vb 0 1 1 C [x] w (by omega) (by omega) hroom (by omega) hvne hl rfl hcell (fun j hj => by rw [cell_at hb]; simp; omega) (fun j hj => frozen_at hb _) hvs h1 h1v
          9 9 1 cur.size (by simp [World.shape?, hvb]) (by simp [World.shape?, hb]) (by omega) (frozen_at hvb _) (frozen_at hvb _)
        refine Calls.mono (show Calls Tryz.prog 179 #[.slice (some ⟨b, 0, none⟩) n cap, .int .i64 (i : Int), .slice (some ⟨vb, 0, none⟩) 1 1] w _ from H) ?_
        rintro e w' ⟨rfl, rfl⟩
        have hD : (C.drop i).length = n - i := by rw [List.length_drop, hl]
        have hb1 := heap_setCells (b := b) (C.drop i) (0 + (i + 1)) w.drew cur hb (by rw [hD]; omega)
        obtain ⟨s1, s2⟩ := splice_two (x := x) (i := i) (D := C.drop i) htk rfl (by omega) (by simp; omega)
        have hsz1 : (splice cur.toList (0 + (i + 1)) (C.drop i)).length = cur.size := by rw [length_splice _ _ _ (by rw [hD]; simp; omega)]; simp
        refine ⟨_, o, rfl, Row.put hob (heap_setCells [x] (0 + i) _ _ hb1 (by rw [List.size_toArray, hsz1, List.length_singleton]; omega)) hroom (by unfold maxLen; omega) ?_ ?_, ?_⟩
        · simp only [Nat.zero_add]; rw [s2]; simpa using hcs
        · simp only [Nat.zero_add]; exact s1
        · exact (KB.same (w := w) (w' := w.drew) rfl rfl rfl rfl hlt).trans hg ((KB.setCells (w := w.drew) hob hlt _ _).trans hg (KB.setCells hob (fun k hk => by rw [size_setCells]; exact hlt k hk) _ _))
      · have H := Any2.slices_Insert_string_grow Tryz.lays22 b 0 n cap i vb 0 1 1 C [x] w (by omega) (by omega) hnc (by omega) (by omega) hl rfl hcell hvs h1 h1v
        refine Calls.mono (show Calls Tryz.prog 179 #[.slice (some ⟨b, 0, none⟩) n cap, .int .i64 (i : Int), .slice (some ⟨vb, 0, none⟩) 1 1] w _ from H) ?_
        rintro e w' ⟨rfl, rfl⟩
        have hge := grownCap_ge w (n + 1) cap 9
        have hmx := grownCap_le_maxLen w (n + 1) cap 9 (by unfold maxLen; omega)
        have hD : (C.drop i).length = n - i := by rw [List.length_drop, hl]
        have hge' : n + 1 ≤ grownCap w (n + 1) cap 9 := hge
        have hmx' : grownCap w (n + 1) cap 9 ≤ maxLen := hmx
        clear hge hmx
        show ∃ v' o', Ending.returned (.slice (some ⟨w.heap.size, 0, none⟩) (n + 1) (grownCap w (n + 1) cap 9)) = .returned v' ∧ Row o' ((((w.alloc (.cells ((C.take i).toArray ++ Builtin.zeroCells (Value.string ⟨#[]⟩).cells (n + 1 - i) ++ Builtin.zeroCells (Value.string ⟨#[]⟩).cells (grownCap w (n + 1) cap 9 - (n + 1))) 9)).drew.setCells w.heap.size i [x]).drew).setCells w.heap.size (i + 1) (C.drop i)) g 9 1 v' (n + 1) (C.take i ++ x :: C.drop i) ∧
          KB g o o' w ((((w.alloc (.cells ((C.take i).toArray ++ Builtin.zeroCells (Value.string ⟨#[]⟩).cells (n + 1 - i) ++ Builtin.zeroCells (Value.string ⟨#[]⟩).cells (grownCap w (n + 1) cap 9 - (n + 1))) 9)).drew.setCells w.heap.size i [x]).drew).setCells w.heap.size (i + 1) (C.drop i))
        generalize grownCap w (n + 1) cap 9 = G at hge' hmx'
        have hcur : ((C.take i).toArray ++ Builtin.zeroCells (Value.string ⟨#[]⟩).cells (n + 1 - i) ++ Builtin.zeroCells (Value.string ⟨#[]⟩).cells (G - (n + 1))).size = G := by
          rw [Array.size_append, Array.size_append, zero_len _ _ rfl, zero_len _ _ rfl]; simp; omega
        have hpre : ((C.take i).toArray ++ Builtin.zeroCells (Value.string ⟨#[]⟩).cells (n + 1 - i) ++ Builtin.zeroCells (Value.string ⟨#[]⟩).cells (G - (n + 1))).toList.take i = C.take i := by
          rw [Array.toList_append, Array.toList_append, List.append_assoc, List.take_append_of_le_length (by simp; omega), List.take_of_length_le (by simp [Nat.min_le_left])]
        generalize (C.take i).toArray ++ Builtin.zeroCells (Value.string ⟨#[]⟩).cells (n + 1 - i) ++ Builtin.zeroCells (Value.string ⟨#[]⟩).cells (G - (n + 1)) = cur0 at hcur hpre
        have hb0 : ((w.alloc (.cells cur0 9)).drew).heap[w.heap.size]? = some (.cells cur0 9 (0, 0)) := alloc_new w _
        have hb1 := heap_setCells (b := w.heap.size) [x] i _ cur0 hb0 (by simp; omega)
        have hl1 : (splice cur0.toList i [x]).length = G := by rw [length_splice _ _ _ (by simp; omega)]; simpa using hcur
        have hb2 := heap_setCells (b := w.heap.size) (C.drop i) (i + 1) (((w.alloc (.cells cur0 9)).drew.setCells w.heap.size i [x]).drew) _ hb1 (by simp [hl1]; omega)
        have e1 : (splice cur0.toList i [x]).take (i + 1) = C.take i ++ [x] := by
          rw [splice, hpre, ← List.append_assoc, List.take_append_of_le_length (by simp; omega), List.take_of_length_le (by simp; omega)]
        have e2 : (splice (splice cur0.toList i [x]) (i + 1) (C.drop i)).take (n + 1) = C.take i ++ x :: C.drop i := by
          rw [splice, e1, ← List.append_assoc, List.take_append_of_le_length (by simp; omega), List.take_of_length_le (by simp; omega)]; simp
        refine ⟨_, moved o g w.heap.size, rfl, Row.put (moved_self _ _ _) hb2 hge' hmx' ?_ ?_, ?_⟩
        · simp only [List.size_toArray]; rw [length_splice _ _ _ (by rw [hl1, hD]; omega), hl1]
        · exact e2
        · have k1 : KB g o (moved o g w.heap.size) w (w.alloc (.cells cur0 9)).drew := KB.alloc rfl rfl rfl (by simp) (fun k hk => alloc_old' w _ k hk) hlt
          have k2 := k1.trans hg (KB.setCells (w := (w.alloc (.cells cur0 9)).drew) (moved_self o g w.heap.size) k1.lt i [x])
          have k3 := k2.trans hg (KB.same (w := (w.alloc (.cells cur0 9)).drew.setCells w.heap.size i [x]) (w' := ((w.alloc (.cells cur0 9)).drew.setCells w.heap.size i [x]).drew) rfl rfl rfl rfl k2.lt)
          exact k3.trans hg (KB.setCells (moved_self o g w.heap.size) k3.lt _ _)

theorem delS_any {o : Own} {w : World} {g : Tag} {v : Value} {n i j : Nat} {l : List ByteArray} (hr : Row o w g 9 1 v n (strs l)) (hlt : ∀ k, o k ≠ .free → k < w.heap.size) (hg : g ≠ .free) (hij : i ≤ j) (hj : j ≤ n) :
    Calls Tryz.prog 177 #[v, .int .i64 i, .int .i64 j] w fun e w' => ∃ v', e = .returned v' ∧ v'.ownBlock = v.ownBlock ∧ Row o w' g 9 1 v' (n - (j - i)) (strs (l.take i ++ l.drop j)) ∧ KB g o o w w' := by
  have hl : (strs l).length = n := by simpa using hr.1.1
  have hll : l.length = n := by simpa [strs] using hl
  rcases hr.1.2 with ⟨rfl, rfl⟩ | ⟨b, cap, cur, rfl, _, hb, hnc, hcm, hcs, htk⟩
  · obtain rfl : l = [] := List.eq_nil_of_length_eq_zero hll
    obtain rfl : j = 0 := by omega
    obtain rfl : i = 0 := by omega
    have H : Calls Tryz.prog 177 #[.slice none 0 0, .int .i64 (0 : Int), .int .i64 (0 : Int)] w fun e w' => e = .returned (.slice none 0 0) ∧ w' = w := by
      clear hr hlt
      go_enter Tryz.func177, Tryz.ntmps177
      go_wp2
      go_ret
      exact ⟨rfl, rfl⟩
    refine Calls.mono (show Calls Tryz.prog 177 #[.slice none 0 0, .int .i64 ((0 : Nat) : Int), .int .i64 ((0 : Nat) : Int)] w _ from H) ?_
    rintro e w' ⟨rfl, rfl⟩
    exact ⟨_, rfl, rfl, hr, KB.same rfl rfl rfl rfl hlt⟩
  · simp only [Nat.mul_one] at hcs htk
    have hob : o b = g := hr.2 b rfl
    unfold maxLen at hcm
    have hH : Sort.Holds encStr w b 0 (zsS l).toArray := by
      intro k hk
      simp only [zsS, List.size_toArray, List.length_map] at hk
      refine ⟨?_, frozen_at hb _⟩
      rw [Nat.zero_add, cell_at hb]
      have : cur[k]? = some (Value.string (l[k]'hk)) := by
        have := take_getElem? (j := k) (v := Value.string (l[k]'hk)) htk (by simp [strs, hk])
        simpa using this
      rw [this, getElem!_pos _ k (by simpa [zsS] using hk)]
      simp [zsS, encStr]
    have H := Any.slices_Delete_string Tryz.lays24 b 0 cap i j (zsS l) w hH (by simp [zsS]; omega) (by omega) hij (by simp [zsS]; omega)
    have hzl : (zsS l).length = n := by simp [zsS, hll]
    rw [hzl] at H
    refine Calls.mono (show Calls Tryz.prog 177 #[.slice (some ⟨b, 0, none⟩) n cap, .int .i64 (i : Int), .int .i64 (j : Int)] w _ from H) ?_
    rintro e w' ⟨rfl, q, rfl⟩
    have hys : (zsS l).take i ++ (zsS l).drop j ++ List.replicate (j - i) [] = zsS (l.take i ++ l.drop j ++ List.replicate (j - i) ⟨#[]⟩) := by simp [zsS, List.map_take, List.map_drop]
    rw [hys, Lib.putRow_eq_setCells encStr w b 0 (zsS l).toArray _ q hH (by simp [zsS]; omega)]
    have hmap : (zsS (l.take i ++ l.drop j ++ List.replicate (j - i) ⟨#[]⟩)).map encStr = strs (l.take i ++ l.drop j ++ List.replicate (j - i) ⟨#[]⟩) := by
      simp [zsS, strs, List.map_map, Function.comp_def, encStr]
    rw [hmap]
    have hN : (strs (l.take i ++ l.drop j ++ List.replicate (j - i) ⟨#[]⟩)).length = n := by simp [strs]; omega
    have hb' : (w.drewN q).heap[b]? = some (.cells cur 9 (0, 0)) := by rw [drewN_heap]; exact hb
    obtain ⟨d1, d2, d3⟩ := drewN_rest w q
    refine ⟨_, rfl, rfl, Row.put hob (heap_setCells _ 0 _ cur hb' (by rw [hN]; omega)) (by omega) (by unfold maxLen; omega) ?_ ?_, ?_⟩
    · rw [length_splice _ _ _ (by rw [hN]; simp; omega)]; simpa using hcs
    · rw [splice_front (by rw [hN]; omega)]
      have e : strs (l.take i ++ l.drop j ++ List.replicate (j - i) ⟨#[]⟩) = strs (l.take i ++ l.drop j) ++ strs (List.replicate (j - i) ⟨#[]⟩) := by simp [strs]
      rw [e, List.take_append_of_le_length (by simp [strs]; omega), List.take_of_length_le (by simp [strs]; omega)]
    · exact (KB.same (w := w) (w' := w.drewN q) d1 d2 d3 (drewN_heap w q) hlt).trans hg (KB.setCells hob (fun k hk => by rw [drewN_heap]; exact hlt k hk) _ _)
theorem cloS_any {w : World} {b off n c : Nat} {l : List ByteArray} (hl : l.length = n) (hn : n < 1000000000) (hc : ∀ j v, (strs l)[j]? = some v → w.cell? ⟨b, off + j, none⟩ = some v) :
    Calls Tryz.prog 77 #[.slice (some ⟨b, off, none⟩) n c] w fun e w' => ∃ v', e = .returned v' ∧ w'.ownsRow w.heap.size 9 1 v' n (strs l) ∧ Below w.heap.size w w' := by
  have H := Any.slices_Clone_string Tryz.lays16 b off n c (id l) w (by simp [id, hl]) (by omega) (fun j hj => by
    have hj' : j < l.length := by simpa [id] using hj
    rw [hc j (Value.string l[j]) (by simp [strs, hj'])]
    simp [id, List.getD, hj'])
  refine Calls.mono (show Calls Tryz.prog 77 #[.slice (some ⟨b, off, none⟩) n c] w _ from H) ?_
  rintro e w' ⟨v', rfl, h1, _, h2⟩
  refine ⟨v', rfl, ?_, h2⟩
  have : ((id l).take n).map Value.string = strs l := by rw [List.take_of_length_le (by simp [id]; omega)]; simp [id, strs, List.map_map, Function.comp_def]
  rw [← this]; exact h1
theorem cloS_nil (w : World) : Calls Tryz.prog 77 #[.slice none 0 0] w fun e w' => e = .returned (.slice none 0 0) ∧ w' = w :=
  Any.slices_Clone_string_nil Tryz.lays16 0 0 w

theorem insI_any {o : Own} {w : World} {g : Tag} {v x : Value} {n i vb : Nat} {C : List Value} (hr : Row o w g 3 1 v n C) (h1 : ∀ u ∈ C, u.oneCell' = true) (hlt : ∀ k, o k ≠ .free → k < w.heap.size) (hg : g ≠ .free)
    (hi : i ≤ n) (hn : n < 1000000000) (hvb : w.heap[vb]? = some (.cells #[x] 3 (0, 0))) (hx : x.oneCell' = true) (hne : o vb = .free) :
    Calls Tryz.prog 219 #[v, .int .i64 i, .slice (some ⟨vb, 0, none⟩) 1 1] w fun e w' => ∃ v' o', e = .returned v' ∧ Row o' w' g 3 1 v' (n + 1) (C.take i ++ x :: C.drop i) ∧ KB g o o' w w' := by
  have hvs : ∀ (j : Nat) u, [x][j]? = some u → w.cell? ⟨vb, 0 + j, none⟩ = some u := by
    intro j u hj
    rw [Nat.zero_add, cell_at hvb]
    match j, hj with
    | 0, hj => simpa using hj
  have h1v : ∀ u ∈ [x], u.oneCell' = true := by intro u hu; simp at hu; rw [hu]; exact hx
  have hl : C.length = n := by simpa using hr.1.1
  rcases hr.1.2 with ⟨rfl, rfl⟩ | ⟨b, cap, cur, rfl, _, hb, hnc, hcm, hcs, htk⟩
  · obtain rfl : C = [] := List.eq_nil_of_length_eq_zero hl
    obtain rfl : i = 0 := by omega
    have H : Calls Tryz.prog 219 #[.slice none 0 0, .int .i64 ((0 : Nat) : Int), .slice (some ⟨vb, 0, none⟩) 1 1] w fun e w' => e = .returned (.slice (some ⟨w.heap.size, 0, none⟩) (0 + 1) (grownCap w (0 + 1) 0 3)) ∧
        w' = w.drew.alloc (.cells (([] ++ [x]).toArray ++ Builtin.zeroCells (Value.int .i64 0).cells (grownCap w (0 + 1) 0 3 - (0 + 1))) 3) := Any2.slices_Insert_int_end_grow Tryz.lays21 none 0 0 vb 0 1 1 [] [x] w (by omega) (by omega) (by omega) (by omega) rfl rfl (fun _ => rfl) (fun a ha => by cases ha) hvs h1v
    refine H.mono ?_
    rintro e w' ⟨rfl, rfl⟩
    have hge := grownCap_ge w (0 + 1) 0 3
    have hmx := grownCap_le_maxLen w (0 + 1) 0 3 (by simp [maxLen])
    refine ⟨_, moved o g w.heap.size, rfl, ?_, KB.alloc rfl rfl rfl (by simp) (fun k hk => alloc_old' w.drew _ k hk) hlt⟩
    refine Row.put (L := [x] ++ (Builtin.zeroCells (Value.int .i64 0).cells (grownCap w (0 + 1) 0 3 - (0 + 1))).toList) (moved_self _ _ _) ?_ hge hmx ?_ ?_
    · rw [show ([x] ++ (Builtin.zeroCells (Value.int .i64 0).cells (grownCap w (0 + 1) 0 3 - (0 + 1))).toList).toArray = ([] ++ [x]).toArray ++ Builtin.zeroCells (Value.int .i64 0).cells (grownCap w (0 + 1) 0 3 - (0 + 1)) by simp]
      exact alloc_new w.drew _
    · have hz := zero_len (Value.int .i64 0) (grownCap w (0 + 1) 0 3 - (0 + 1)) rfl
      rw [List.length_append, List.length_singleton, Array.length_toList (xs := Builtin.zeroCells (Value.int .i64 0).cells (grownCap w (0 + 1) 0 3 - (0 + 1))), hz]; omega
    · simp
  · simp only [Nat.mul_one] at hcs htk
    have hob : o b = g := hr.2 b rfl
    have hvne : vb ≠ b := fun e => hg (by rw [← hob, ← e]; exact hne)
    have hcell : ∀ j u, C[j]? = some u → w.cell? ⟨b, 0 + j, none⟩ = some u := fun j u hj => by rw [Nat.zero_add, cell_at hb]; simpa using take_getElem? htk hj
    have hcell2 : ∀ a, some (⟨b, 0, none⟩ : Addr) = some a → ∀ j u, C[j]? = some u → w.cell? (a.add j) = some u := by
      intro a ha j u hj; cases ha; rw [Addr.add_lit]; exact hcell j u hj
    unfold maxLen at hcm
    by_cases hin : i = n
    · subst hin
      by_cases hroom : i + 1 ≤ cap
      · have H := Any2.slices_Insert_int_end_room Tryz.lays21 b 0 i cap vb 0 1 1 [x] w (by omega) hroom (by omega) rfl (fun j hj => by rw [cell_at hb]; simp; omega) (fun j hj => frozen_at hb _) hvs h1v
        refine Calls.mono (show Calls Tryz.prog 219 #[.slice (some ⟨b, 0, none⟩) i cap, .int .i64 (i : Int), .slice (some ⟨vb, 0, none⟩) 1 1] w _ from H) ?_
        rintro e w' ⟨rfl, rfl⟩
        obtain ⟨s1, s2⟩ := splice_end (x := x) htk (by simp; omega)
        refine ⟨_, o, rfl, Row.put hob (heap_setCells [x] (0 + i) w cur hb (by simp; omega)) hroom (by unfold maxLen; omega) (by rw [Nat.zero_add, s2]; simpa using hcs) ?_, KB.setCells hob hlt _ _⟩
        rw [Nat.zero_add, s1, List.take_of_length_le (by omega), List.drop_eq_nil_of_le (by omega)]
      · have H : Calls Tryz.prog 219 #[.slice (some ⟨b, 0, none⟩) i cap, .int .i64 (i : Int), .slice (some ⟨vb, 0, none⟩) 1 1] w fun e w' => e = .returned (.slice (some ⟨w.heap.size, 0, none⟩) (i + 1) (grownCap w (i + 1) cap 3)) ∧
            w' = w.drew.alloc (.cells ((C ++ [x]).toArray ++ Builtin.zeroCells (Value.int .i64 0).cells (grownCap w (i + 1) cap 3 - (i + 1))) 3) := Any2.slices_Insert_int_end_grow Tryz.lays21 (some ⟨b, 0, none⟩) i cap vb 0 1 1 C [x] w (by omega) hnc (by omega) (by omega) hl rfl (fun h => by cases h) hcell2 hvs h1v
        refine H.mono ?_
        rintro e w' ⟨rfl, rfl⟩
        have hge := grownCap_ge w (i + 1) cap 3
        have hmx := grownCap_le_maxLen w (i + 1) cap 3 (by unfold maxLen; omega)
        refine ⟨_, moved o g w.heap.size, rfl, ?_, KB.alloc rfl rfl rfl (by simp) (fun k hk => alloc_old' w.drew _ k hk) hlt⟩
        refine Row.put (L := (C ++ [x]) ++ (Builtin.zeroCells (Value.int .i64 0).cells (grownCap w (i + 1) cap 3 - (i + 1))).toList) (moved_self _ _ _) ?_ hge hmx ?_ ?_
        · rw [show ((C ++ [x]) ++ (Builtin.zeroCells (Value.int .i64 0).cells (grownCap w (i + 1) cap 3 - (i + 1))).toList).toArray = (C ++ [x]).toArray ++ Builtin.zeroCells (Value.int .i64 0).cells (grownCap w (i + 1) cap 3 - (i + 1)) by simp]
          exact alloc_new w.drew _
        · have hz := zero_len (Value.int .i64 0) (grownCap w (i + 1) cap 3 - (i + 1)) rfl
          rw [List.length_append, List.length_append, List.length_singleton, Array.length_toList (xs := Builtin.zeroCells (Value.int .i64 0).cells (grownCap w (i + 1) cap 3 - (i + 1))), hz]; omega
        · rw [List.take_append_of_le_length (by simp; omega), List.take_of_length_le (by simp; omega), List.take_of_length_le (by omega), List.drop_eq_nil_of_le (by omega)]
    · by_cases hroom : n + 1 ≤ cap
      · have H := Any2.slices_Insert_int_shift Tryz.lays21 b 0 n cap i vb 0 1 1 C [x] w (by omega) (by omega) hroom (by omega) hvne hl rfl hcell (fun j hj => by rw [cell_at hb]; simp; omega) (fun j hj => frozen_at hb _) hvs h1 h1v
          3 3 1 cur.size (by simp [World.shape?, hvb]) (by simp [World.shape?, hb]) (by omega) (frozen_at hvb _) (frozen_at hvb _)
        refine Calls.mono (show Calls Tryz.prog 219 #[.slice (some ⟨b, 0, none⟩) n cap, .int .i64 (i : Int), .slice (some ⟨vb, 0, none⟩) 1 1] w _ from H) ?_
        rintro e w' ⟨rfl, rfl⟩
        have hD : (C.drop i).length = n - i := by rw [List.length_drop, hl]
        have hb1 := heap_setCells (b := b) (C.drop i) (0 + (i + 1)) w.drew cur hb (by rw [hD]; omega)
        obtain ⟨s1, s2⟩ := splice_two (x := x) (i := i) (D := C.drop i) htk rfl (by omega) (by simp; omega)
        have hsz1 : (splice cur.toList (0 + (i + 1)) (C.drop i)).length = cur.size := by rw [length_splice _ _ _ (by rw [hD]; simp; omega)]; simp
        refine ⟨_, o, rfl, Row.put hob (heap_setCells [x] (0 + i) _ _ hb1 (by rw [List.size_toArray, hsz1, List.length_singleton]; omega)) hroom (by unfold maxLen; omega) ?_ ?_, ?_⟩
        · simp only [Nat.zero_add]; rw [s2]; simpa using hcs
        · simp only [Nat.zero_add]; exact s1
        · exact (KB.same (w := w) (w' := w.drew) rfl rfl rfl rfl hlt).trans hg ((KB.setCells (w := w.drew) hob hlt _ _).trans hg (KB.setCells hob (fun k hk => by rw [size_setCells]; exact hlt k hk) _ _))
      · have H := Any2.slices_Insert_int_grow Tryz.lays21 b 0 n cap i vb 0 1 1 C [x] w (by omega) (by omega) hnc (by omega) (by omega) hl rfl hcell hvs h1 h1v
        refine Calls.mono (show Calls Tryz.prog 219 #[.slice (some ⟨b, 0, none⟩) n cap, .int .i64 (i : Int), .slice (some ⟨vb, 0, none⟩) 1 1] w _ from H) ?_
        rintro e w' ⟨rfl, rfl⟩
        have hge := grownCap_ge w (n + 1) cap 3
        have hmx := grownCap_le_maxLen w (n + 1) cap 3 (by unfold maxLen; omega)
        have hD : (C.drop i).length = n - i := by rw [List.length_drop, hl]
        have hge' : n + 1 ≤ grownCap w (n + 1) cap 3 := hge
        have hmx' : grownCap w (n + 1) cap 3 ≤ maxLen := hmx
        clear hge hmx
        show ∃ v' o', Ending.returned (.slice (some ⟨w.heap.size, 0, none⟩) (n + 1) (grownCap w (n + 1) cap 3)) = .returned v' ∧ Row o' ((((w.alloc (.cells ((C.take i).toArray ++ Builtin.zeroCells (Value.int .i64 0).cells (n + 1 - i) ++ Builtin.zeroCells (Value.int .i64 0).cells (grownCap w (n + 1) cap 3 - (n + 1))) 3)).drew.setCells w.heap.size i [x]).drew).setCells w.heap.size (i + 1) (C.drop i)) g 3 1 v' (n + 1) (C.take i ++ x :: C.drop i) ∧
          KB g o o' w ((((w.alloc (.cells ((C.take i).toArray ++ Builtin.zeroCells (Value.int .i64 0).cells (n + 1 - i) ++ Builtin.zeroCells (Value.int .i64 0).cells (grownCap w (n + 1) cap 3 - (n + 1))) 3)).drew.setCells w.heap.size i [x]).drew).setCells w.heap.size (i + 1) (C.drop i))
        generalize grownCap w (n + 1) cap 3 = G at hge' hmx'
        have hcur : ((C.take i).toArray ++ Builtin.zeroCells (Value.int .i64 0).cells (n + 1 - i) ++ Builtin.zeroCells (Value.int .i64 0).cells (G - (n + 1))).size = G := by
          rw [Array.size_append, Array.size_append, zero_len _ _ rfl, zero_len _ _ rfl]; simp; omega
        have hpre : ((C.take i).toArray ++ Builtin.zeroCells (Value.int .i64 0).cells (n + 1 - i) ++ Builtin.zeroCells (Value.int .i64 0).cells (G - (n + 1))).toList.take i = C.take i := by
          rw [Array.toList_append, Array.toList_append, List.append_assoc, List.take_append_of_le_length (by simp; omega), List.take_of_length_le (by simp [Nat.min_le_left])]
        generalize (C.take i).toArray ++ Builtin.zeroCells (Value.int .i64 0).cells (n + 1 - i) ++ Builtin.zeroCells (Value.int .i64 0).cells (G - (n + 1)) = cur0 at hcur hpre
        have hb0 : ((w.alloc (.cells cur0 3)).drew).heap[w.heap.size]? = some (.cells cur0 3 (0, 0)) := alloc_new w _
        have hb1 := heap_setCells (b := w.heap.size) [x] i _ cur0 hb0 (by simp; omega)
        have hl1 : (splice cur0.toList i [x]).length = G := by rw [length_splice _ _ _ (by simp; omega)]; simpa using hcur
        have hb2 := heap_setCells (b := w.heap.size) (C.drop i) (i + 1) (((w.alloc (.cells cur0 3)).drew.setCells w.heap.size i [x]).drew) _ hb1 (by simp [hl1]; omega)
        have e1 : (splice cur0.toList i [x]).take (i + 1) = C.take i ++ [x] := by
          rw [splice, hpre, ← List.append_assoc, List.take_append_of_le_length (by simp; omega), List.take_of_length_le (by simp; omega)]
        have e2 : (splice (splice cur0.toList i [x]) (i + 1) (C.drop i)).take (n + 1) = C.take i ++ x :: C.drop i := by
          rw [splice, e1, ← List.append_assoc, List.take_append_of_le_length (by simp; omega), List.take_of_length_le (by simp; omega)]; simp
        refine ⟨_, moved o g w.heap.size, rfl, Row.put (moved_self _ _ _) hb2 hge' hmx' ?_ ?_, ?_⟩
        · simp only [List.size_toArray]; rw [length_splice _ _ _ (by rw [hl1, hD]; omega), hl1]
        · exact e2
        · have k1 : KB g o (moved o g w.heap.size) w (w.alloc (.cells cur0 3)).drew := KB.alloc rfl rfl rfl (by simp) (fun k hk => alloc_old' w _ k hk) hlt
          have k2 := k1.trans hg (KB.setCells (w := (w.alloc (.cells cur0 3)).drew) (moved_self o g w.heap.size) k1.lt i [x])
          have k3 := k2.trans hg (KB.same (w := (w.alloc (.cells cur0 3)).drew.setCells w.heap.size i [x]) (w' := ((w.alloc (.cells cur0 3)).drew.setCells w.heap.size i [x]).drew) rfl rfl rfl rfl k2.lt)
          exact k3.trans hg (KB.setCells (moved_self o g w.heap.size) k3.lt _ _)

theorem delI_any {o : Own} {w : World} {g : Tag} {v : Value} {n i j : Nat} {l : List Nat} (hr : Row o w g 3 1 v n (nums l)) (hlt : ∀ k, o k ≠ .free → k < w.heap.size) (hg : g ≠ .free) (hij : i ≤ j) (hj : j ≤ n) :
    Calls Tryz.prog 222 #[v, .int .i64 i, .int .i64 j] w fun e w' => ∃ v', e = .returned v' ∧ v'.ownBlock = v.ownBlock ∧ Row o w' g 3 1 v' (n - (j - i)) (nums (l.take i ++ l.drop j)) ∧ KB g o o w w' := by
  have hl : (nums l).length = n := by simpa using hr.1.1
  have hll : l.length = n := by simpa [nums] using hl
  rcases hr.1.2 with ⟨rfl, rfl⟩ | ⟨b, cap, cur, rfl, _, hb, hnc, hcm, hcs, htk⟩
  · obtain rfl : l = [] := List.eq_nil_of_length_eq_zero hll
    obtain rfl : j = 0 := by omega
    obtain rfl : i = 0 := by omega
    have H : Calls Tryz.prog 222 #[.slice none 0 0, .int .i64 (0 : Int), .int .i64 (0 : Int)] w fun e w' => e = .returned (.slice none 0 0) ∧ w' = w := by
      clear hr hlt
      go_enter Tryz.func222, Tryz.ntmps222
      go_wp2
      go_ret
      exact ⟨rfl, rfl⟩
    refine Calls.mono (show Calls Tryz.prog 222 #[.slice none 0 0, .int .i64 ((0 : Nat) : Int), .int .i64 ((0 : Nat) : Int)] w _ from H) ?_
    rintro e w' ⟨rfl, rfl⟩
    exact ⟨_, rfl, rfl, hr, KB.same rfl rfl rfl rfl hlt⟩
  · simp only [Nat.mul_one] at hcs htk
    have hob : o b = g := hr.2 b rfl
    unfold maxLen at hcm
    have hH : Sort.Holds (Value.int .i64) w b 0 (zsI l).toArray := by
      intro k hk
      simp only [zsI, List.size_toArray, List.length_map] at hk
      refine ⟨?_, frozen_at hb _⟩
      rw [Nat.zero_add, cell_at hb]
      have : cur[k]? = some ((fun m : Nat => Value.int .i64 (m : Int)) (l[k]'hk)) := by
        have := take_getElem? (j := k) (v := (fun m : Nat => Value.int .i64 (m : Int)) (l[k]'hk)) htk (by simp [nums, hk])
        simpa using this
      rw [this, getElem!_pos _ k (by simpa [zsI] using hk)]
      simp [zsI]
    have H := Any.slices_Delete_int Tryz.lays23 b 0 cap i j (zsI l) w hH (by simp [zsI]; omega) (by omega) hij (by simp [zsI]; omega)
    have hzl : (zsI l).length = n := by simp [zsI, hll]
    rw [hzl] at H
    refine Calls.mono (show Calls Tryz.prog 222 #[.slice (some ⟨b, 0, none⟩) n cap, .int .i64 (i : Int), .int .i64 (j : Int)] w _ from H) ?_
    rintro e w' ⟨rfl, q, rfl⟩
    have hys : (zsI l).take i ++ (zsI l).drop j ++ List.replicate (j - i) 0 = zsI (l.take i ++ l.drop j ++ List.replicate (j - i) 0) := by simp [zsI, List.map_take, List.map_drop]
    rw [hys, Lib.putRow_eq_setCells (Value.int .i64) w b 0 (zsI l).toArray _ q hH (by simp [zsI]; omega)]
    have hmap : (zsI (l.take i ++ l.drop j ++ List.replicate (j - i) 0)).map (Value.int .i64) = nums (l.take i ++ l.drop j ++ List.replicate (j - i) 0) := by
      simp [zsI, nums, List.map_map, Function.comp_def]
    rw [hmap]
    have hN : (nums (l.take i ++ l.drop j ++ List.replicate (j - i) 0)).length = n := by simp [nums]; omega
    have hb' : (w.drewN q).heap[b]? = some (.cells cur 3 (0, 0)) := by rw [drewN_heap]; exact hb
    obtain ⟨d1, d2, d3⟩ := drewN_rest w q
    refine ⟨_, rfl, rfl, Row.put hob (heap_setCells _ 0 _ cur hb' (by rw [hN]; omega)) (by omega) (by unfold maxLen; omega) ?_ ?_, ?_⟩
    · rw [length_splice _ _ _ (by rw [hN]; simp; omega)]; simpa using hcs
    · rw [splice_front (by rw [hN]; omega)]
      have e : nums (l.take i ++ l.drop j ++ List.replicate (j - i) 0) = nums (l.take i ++ l.drop j) ++ nums (List.replicate (j - i) 0) := by simp [nums]
      rw [e, List.take_append_of_le_length (by simp [nums]; omega), List.take_of_length_le (by simp [nums]; omega)]
    · exact (KB.same (w := w) (w' := w.drewN q) d1 d2 d3 (drewN_heap w q) hlt).trans hg (KB.setCells hob (fun k hk => by rw [drewN_heap]; exact hlt k hk) _ _)
theorem cloI_any {w : World} {b off n c : Nat} {l : List Nat} (hl : l.length = n) (hn : n < 1000000000) (hc : ∀ j v, (nums l)[j]? = some v → w.cell? ⟨b, off + j, none⟩ = some v) :
    Calls Tryz.prog 223 #[.slice (some ⟨b, off, none⟩) n c] w fun e w' => ∃ v', e = .returned v' ∧ w'.ownsRow w.heap.size 3 1 v' n (nums l) ∧ Below w.heap.size w w' := by
  have H := Any.slices_Clone_int Tryz.lays15 b off n c (zsI l) w (by simp [zsI, hl]) (by omega) (fun j hj => by
    have hj' : j < l.length := by simpa [zsI] using hj
    rw [hc j ((fun m : Nat => Value.int .i64 (m : Int)) l[j]) (by simp [nums, hj'])]
    simp [zsI, List.getD, hj'])
  refine Calls.mono (show Calls Tryz.prog 223 #[.slice (some ⟨b, off, none⟩) n c] w _ from H) ?_
  rintro e w' ⟨v', rfl, h1, _, h2⟩
  refine ⟨v', rfl, ?_, h2⟩
  have : ((zsI l).take n).map (Value.int .i64) = nums l := by rw [List.take_of_length_le (by simp [zsI]; omega)]; simp [zsI, nums, List.map_map, Function.comp_def]
  rw [← this]; exact h1
theorem cloI_nil (w : World) : Calls Tryz.prog 223 #[.slice none 0 0] w fun e w' => e = .returned (.slice none 0 0) ∧ w' = w :=
  Any.slices_Clone_int_nil Tryz.lays15 0 0 w

end Go.Proofs.YtaefeakmlgjonaaGreat.Tz
/- How the memory that holds a tree turns: a call that turns one owner's row; a store into a node's field, into the tree's struct; a block that gets an owner. -/
namespace Go.Proofs.YtaefeakmlgjonaaGreat.Tz
set_option maxRecDepth 100000
open Go.ChangeShapes Go.WideShapes Go.ChangeAt Go.RowKit

theorem Row.kb {o o' : Own} {w w' : World} {g x : Tag} {e : TypeId} {size n : Nat} {v : Value} {xs : List Value} (h : Row o w g e size v n xs) (k : KB x o o' w w') (hx : g ≠ x) : Row o' w' g e size v n xs :=
  (h.same fun b hb => k.block b (h.lt hb) (by rw [h.2 b hb]; exact hx)).own fun b hb => k.keep b (h.lt hb) (by rw [h.2 b hb]; exact hx)

section
variable {x : Tag} {o o' : Own} {w w' : World} {t : Nat} {s : St} {vn vg : Value}
theorem RepX.open_ (h : Rep o w t s vn vg) (x : Tag) : RepX x o w t s vn vg := ⟨h.ot, h.tree, h.nodes, h.gone, fun i n hi _ => h.lines i n hi (by simp), fun i n hi _ => h.kids i n hi (by simp), h.lt⟩
/-- A call that turns the left-out owner's rows alone. -/
theorem RepX.kb (h : RepX x o w t s vn vg) (k : KB x o o' w w') (h1 : x ≠ .tree) (h2 : x ≠ .nodes) (h3 : x ≠ .gone) : RepX x o' w' t s vn vg := by
  have ht : o t ≠ x := by rw [h.ot]; exact fun e => h1 e.symm
  refine ⟨by rw [k.keep t h.tlt ht, h.ot], by rw [k.block t h.tlt ht]; exact h.tree, h.nodes.kb k (Ne.symm h2), h.gone.kb k (Ne.symm h3), fun i n hi hx => (h.lines i n hi hx).kb k hx, fun i n hi hx => (h.kids i n hi hx).kb k hx, k.lt⟩
theorem RepX.ne_tree (h : RepX x o w t s vn vg) {b : Nat} {g : Tag} (hb : o b = g) (hg : g ≠ .tree) : b ≠ t := fun e => hg (by rw [← hb, e, h.ot])
theorem Row.setCell {g g' : Tag} {e : TypeId} {size n b off : Nat} {v u : Value} {xs : List Value} (h : Row o w g e size v n xs) (hb : o b = g') (hg : g' ≠ g) : Row o (w.setCell ⟨b, off, none⟩ u) g e size v n xs :=
  h.same fun k hk => heap_setCell_other fun e => hg (by rw [← hb, ← e]; exact h.2 k hk)

theorem cells_set_at {ns : List Node} {i j : Nat} {n n' : Node} {v : Value} (hi : ns[i]? = some n) (hj : j < 4) (hc : n'.cells = n.cells.set j v) : (ns.set i n').flatMap Node.cells = (ns.flatMap Node.cells).set (i * 4 + j) v := by
  induction ns generalizing i with
  | nil => simp at hi
  | cons m ms ih =>
    cases i with
    | zero =>
      simp at hi; subst hi
      rw [List.set_cons_zero, List.flatMap_cons, List.flatMap_cons, hc, Nat.zero_mul, Nat.zero_add, List.set_append_left _ _ (by simp [Node.cells]; omega)]
    | succ i =>
      simp at hi
      rw [List.set_cons_succ, List.flatMap_cons, List.flatMap_cons, ih hi, List.set_append_right _ _ (by simp [Node.cells]; omega)]
      have : (i + 1) * 4 + j - m.cells.length = i * 4 + j := by simp [Node.cells]; omega
      rw [this]

/-- A store into a node's field. -/
theorem RepX.store (h : RepX x o w t s vn vg) {i j b m cap : Nat} {n n' : Node} {v : Value} (hx : x = .lines i ∨ x = .kids i ∨ x = .free) (hi : s.ns[i]? = some n) (hvn : vn = .slice (some ⟨b, 0, none⟩) m cap) (hj : j < 4)
    (hc : n'.cells = n.cells.set j v) (hl : Row o w (.lines i) 9 1 n'.vl n'.lines.length (strs n'.lines)) (hk : Row o w (.kids i) 3 1 n'.vk n'.kids.length (nums n'.kids)) :
    Rep o (w.setCell ⟨b, i * 4 + j, none⟩ v) t { s with ns := s.ns.set i n' } vn vg := by
  subst hvn
  have hob : o b = .nodes := h.nodes.2 b rfl
  have hlen : i < s.ns.length := (List.getElem?_eq_some_iff.1 hi).1
  refine ⟨h.ot, ?_, ?_, h.gone.setCell hob (by simp), fun k nk hk' _ => ?_, fun k nk hk' _ => ?_, fun k hk' => by rw [size_setCell]; exact h.lt k hk'⟩
  · rw [heap_setCell_other (fun e => h.ne_tree hob (by simp) e.symm)]; exact h.tree
  · obtain ⟨b', cap', cur, e, _, hg, h1, h2, h3, h4⟩ := h.nodes.shape (by omega)
    cases e
    refine ⟨⟨?_, .inr ⟨b, cap, _, by rw [List.length_set], Nat.zero_le _, heap_setCell hg, by rw [List.length_set]; exact h1, h2, by simpa using h3, ?_⟩⟩, fun k hk' => ?_⟩
    · rw [flat_len]
    · rw [List.length_set, cells_set_at hi hj hc, ← h4, Array.toList_setIfInBounds]
      rw [List.take_set]
    · simp [Value.ownBlock] at hk'; rw [← hk']; exact hob
  · by_cases e : k = i
    · subst e; rw [List.getElem?_set_self hlen] at hk'; cases hk'; exact hl.setCell hob (by simp)
    · rw [List.getElem?_set_ne (Ne.symm e)] at hk'
      exact (h.lines k nk hk' (by rcases hx with rfl | rfl | rfl <;> simp [e])).setCell hob (by simp)
  · by_cases e : k = i
    · subst e; rw [List.getElem?_set_self hlen] at hk'; cases hk'; exact hk.setCell hob (by simp)
    · rw [List.getElem?_set_ne (Ne.symm e)] at hk'
      exact (h.kids k nk hk' (by rcases hx with rfl | rfl | rfl <;> simp [e])).setCell hob (by simp)
/-- A free block gets an owner. -/
def give (o : Own) (k : Nat) (g : Tag) : Own := fun j => if j = k then g else o j
theorem Row.give {g g' : Tag} {e : TypeId} {size n k : Nat} {v : Value} {xs : List Value} (h : Row o w g e size v n xs) (hg : g ≠ .free) (hk : o k = .free) : Row (give o k g') w g e size v n xs :=
  h.own fun b hb => by unfold Go.Proofs.YtaefeakmlgjonaaGreat.Tz.give; rw [if_neg]; rintro rfl; exact hg (by rw [← h.2 b hb, hk])
theorem RepX.give (h : RepX x o w t s vn vg) {k : Nat} (hk : o k = .free) (hlt : k < w.heap.size) (g : Tag) : RepX x (give o k g) w t s vn vg := by
  refine ⟨?_, h.tree, h.nodes.give (by simp) hk, h.gone.give (by simp) hk, fun i n hi hx => (h.lines i n hi hx).give (by simp) hk, fun i n hi hx => (h.kids i n hi hx).give (by simp) hk, fun j hj => ?_⟩
  · unfold Go.Proofs.YtaefeakmlgjonaaGreat.Tz.give; rw [if_neg]; exact h.ot
    rintro rfl; rw [h.ot] at hk; cases hk
  · unfold Go.Proofs.YtaefeakmlgjonaaGreat.Tz.give at hj; by_cases e : j = k
    · rw [e]; exact hlt
    · rw [if_neg e] at hj; exact h.lt j hj
theorem Keeps.give {o0 : Own} {w0 : World} (h : Keeps o0 o w0 w) {k : Nat} (hk : w0.heap.size ≤ k) (g : Tag) : Keeps o0 (give o k g) w0 w :=
  ⟨h.os, h.tape, h.output, h.size, h.block, fun j hj hf => by unfold Go.Proofs.YtaefeakmlgjonaaGreat.Tz.give; rw [if_neg (by omega)]; exact h.own j hj hf⟩
theorem Keeps.setCell {o0 : Own} {w0 : World} (h : Keeps o0 o w0 w) {b off : Nat} {v : Value} (hb : o b ≠ .free) : Keeps o0 o w0 (w.setCell ⟨b, off, none⟩ v) :=
  h.trans ⟨rfl, rfl, rfl, by rw [size_setCell]; exact Nat.le_refl _, fun k _ hf => heap_setCell_other (fun e => hb (by rw [← e]; exact hf)), fun _ _ hf => hf⟩
theorem Keeps.alloc {o0 : Own} {w0 : World} (h : Keeps o0 o w0 w) (ob : Obj) : Keeps o0 o w0 (w.alloc ob) :=
  h.trans ⟨rfl, rfl, rfl, by simp, fun k hk _ => alloc_old' w ob k hk, fun _ _ hf => hf⟩
theorem Keeps.drew {o0 : Own} {w0 : World} (h : Keeps o0 o w0 w) : Keeps o0 o w0 w.drew := h.trans (Keeps.drewN o w 1)
theorem Keeps.drewN' {o0 : Own} {w0 : World} (h : Keeps o0 o w0 w) (n : Nat) : Keeps o0 o w0 (w.drewN n) := h.trans (Keeps.drewN o w n)
theorem RepX.alloc (h : RepX x o w t s vn vg) (ob : Obj) : RepX x o (w.alloc ob) t s vn vg := by
  have r : ∀ {g e size v n xs}, Row o w g e size v n xs → Row o (w.alloc ob) g e size v n xs := fun hr => hr.same fun k hk => alloc_old' w ob k (hr.lt hk)
  exact ⟨h.ot, by rw [alloc_old' w ob t h.tlt]; exact h.tree, r h.nodes, r h.gone, fun i n hi hx => r (h.lines i n hi hx), fun i n hi hx => r (h.kids i n hi hx), fun k hk => by have := h.lt k hk; simp; omega⟩
theorem RepX.drew (h : RepX x o w t s vn vg) : RepX x o w.drew t s vn vg := h.heap rfl
theorem RepX.drewN (h : RepX x o w t s vn vg) (n : Nat) : RepX x o (w.drewN n) t s vn vg := h.heap (drewN_heap w n)
theorem RepX.free_new (h : RepX x o w t s vn vg) {k : Nat} (hk : w.heap.size ≤ k) : o k = .free := by
  by_cases e : o k = .free
  · exact e
  · exact absurd (h.lt k e) (by omega)

/-- A store into the tree's struct. -/
theorem heap_tree {vn' vg' : Value} {top' : Nat} {j : Nat} {v : Value} (h : w.heap[t]? = some (.cells #[vn, vg, .int .i64 s.top] 144 (0, 0))) (hc : #[vn', vg', .int .i64 (top' : Int)] = (#[vn, vg, .int .i64 s.top] : Array Value).setIfInBounds j v) :
    (w.setCell ⟨t, j, none⟩ v).heap[t]? = some (.cells #[vn', vg', .int .i64 (top' : Int)] 144 (0, 0)) := by rw [heap_setCell h, hc]
theorem RepX.storeTop (h : RepX x o w t s vn vg) (top' : Nat) : RepX x o (w.setCell ⟨t, 2, none⟩ (.int .i64 top')) t { s with top := top' } vn vg := by
  have r : ∀ {g e size v n xs}, g ≠ .tree → Row o w g e size v n xs → Row o (w.setCell ⟨t, 2, none⟩ (.int .i64 top')) g e size v n xs := fun hg hr => hr.setCell h.ot (Ne.symm hg)
  exact ⟨h.ot, heap_tree (s := s) h.tree rfl, r (by simp) h.nodes, r (by simp) h.gone, fun i n hi hx => r (by simp) (h.lines i n hi hx), fun i n hi hx => r (by simp) (h.kids i n hi hx), fun k hk => by rw [size_setCell]; exact h.lt k hk⟩
/-- Another list of free numbers: its row has turned (KB .gone), and its value is stored. -/
theorem RepX.storeGone (h : RepX x o w t s vn vg) (k : KB .gone o o' w w') {vg' : Value} {gone' : List Nat} (hg : Row o' w' .gone 3 1 vg' gone'.length (nums gone')) : RepX x o' (w'.setCell ⟨t, 1, none⟩ vg') t { s with gone := gone' } vn vg' := by
  have hot : o' t = .tree := by rw [k.keep t h.tlt (by rw [h.ot]; simp), h.ot]
  have r : ∀ {g e size v n xs}, g ≠ .tree → g ≠ .gone → Row o w g e size v n xs → Row o' (w'.setCell ⟨t, 1, none⟩ vg') g e size v n xs := fun h1 h2 hr => (hr.kb k h2).setCell hot (Ne.symm h1)
  have ht : w'.heap[t]? = some (.cells #[vn, vg, .int .i64 s.top] 144 (0, 0)) := by rw [k.block t h.tlt (by rw [h.ot]; simp)]; exact h.tree
  exact ⟨hot, heap_tree (s := s) ht rfl, r (by simp) (by simp) h.nodes, hg.setCell hot (by simp), fun i n hi hx => r (by simp) (by simp) (h.lines i n hi hx), fun i n hi hx => r (by simp) (by simp) (h.kids i n hi hx), fun j hj => by rw [size_setCell]; exact k.lt j hj⟩
/-- Another list of nodes, whose rows are there. -/
theorem RepX.storeNodes (h : Rep o w t s vn vg) (k : KB .nodes o o' w w') {vn' : Value} {ns' : List Node} (hn : Row o' w' .nodes 141 4 vn' ns'.length (ns'.flatMap Node.cells))
    (hl : ∀ (i : Nat) n, ns'[i]? = some n → s.ns[i]? = some n ∨ n = nilNode) : Rep o' (w'.setCell ⟨t, 0, none⟩ vn') t { s with ns := ns' } vn' vg := by
  have hot : o' t = .tree := by rw [k.keep t h.tlt (by rw [h.ot]; simp), h.ot]
  have r : ∀ {g e size v n xs}, g ≠ .tree → g ≠ .nodes → Row o w g e size v n xs → Row o' (w'.setCell ⟨t, 0, none⟩ vn') g e size v n xs := fun h1 h2 hr => (hr.kb k h2).setCell hot (Ne.symm h1)
  have ht : w'.heap[t]? = some (.cells #[vn, vg, .int .i64 s.top] 144 (0, 0)) := by rw [k.block t h.tlt (by rw [h.ot]; simp)]; exact h.tree
  have rn : ∀ {g e}, Row o' (w'.setCell ⟨t, 0, none⟩ vn') g e 1 (.slice none 0 0) 0 [] := ⟨World.ownsRow_nil _ _ _ _, fun k hk => by simp [Value.ownBlock] at hk⟩
  refine ⟨hot, heap_tree (s := s) ht rfl, hn.setCell hot (by simp), r (by simp) (by simp) h.gone, fun i n hi _ => ?_, fun i n hi _ => ?_, fun j hj => by rw [size_setCell]; exact k.lt j hj⟩
  · rcases hl i n hi with h' | rfl
    · exact r (by simp) (by simp) (h.lines i n h' (by simp))
    · exact rn
  · rcases hl i n hi with h' | rfl
    · exact r (by simp) (by simp) (h.kids i n h' (by simp))
    · exact rn
end
/-- A row that an append has made, at its old block or at a new one. -/
theorem Row.grown {o : Own} {w w' : World} {g : Tag} {e : TypeId} {size n n' cap' : Nat} {v : Value} {xs xs' : List Value} {b' : Nat} (h : Row o w g e size v n xs) (hlt : ∀ k, o k ≠ .free → k < w.heap.size)
    (hown : w'.ownsRow 0 e size (.slice (some ⟨b', 0, none⟩) n' cap') n' xs') (hgr : w.grownBy w' v.ownBlock) (hat : v.ownBlock = some b' ∨ b' = w.heap.size) (hbl : b' < w'.heap.size) :
    ∃ o', Row o' w' g e size (.slice (some ⟨b', 0, none⟩) n' cap') n' xs' ∧ KB g o o' w w' := by
  have fr : ∀ k, w.heap.size ≤ k → o k = .free := fun k hk => by
    by_cases h : o k = .free
    · exact h
    · exact absurd (hlt k h) (by omega)
  rcases hat with hat | rfl
  · refine ⟨o, ⟨hown, fun k hk => ?_⟩, ⟨hgr.os, hgr.tape, hgr.output, hgr.size, fun k hk hn => hgr.block k hk (fun e => hn (h.2 k e.symm)), fun _ _ _ => rfl, fun _ => .inl rfl, fun k hk => .inr (fr k hk), fun _ _ h => .inl h, fun k hk => Nat.lt_of_lt_of_le (hlt k hk) hgr.size⟩⟩
    simp [Value.ownBlock] at hk; rw [← hk]; exact h.2 _ hat
  · refine ⟨moved o g w.heap.size, ⟨hown, fun k hk => ?_⟩, ⟨hgr.os, hgr.tape, hgr.output, hgr.size, fun k hk hn => hgr.block k hk (fun e => hn (h.2 k e.symm)), fun k hk hn => ?_, fun k => ?_, fun k hk => ?_, fun k hk h' => ?_, fun k hk => ?_⟩⟩
    · simp [Value.ownBlock] at hk; rw [← hk]; exact moved_self _ _ _
    · simp [moved, Nat.ne_of_lt hk, hn]
    · unfold moved; by_cases e : k = w.heap.size
      · simp [e]
      · by_cases h : o k = g <;> simp [e, h]
    · unfold moved; by_cases e : k = w.heap.size
      · simp [e]
      · rw [if_neg e, fr k hk]; by_cases h : Tag.free = g
        · rw [if_pos h]; exact .inr rfl
        · rw [if_neg h]; exact .inr rfl
    · unfold moved; rw [if_neg (by omega), if_pos h']; exact .inr rfl
    · by_cases e : k = w.heap.size
      · omega
      · unfold moved at hk; rw [if_neg e] at hk
        by_cases h : o k = g
        · rw [if_pos h] at hk; exact absurd rfl hk
        · rw [if_neg h] at hk; exact Nat.lt_of_lt_of_le (hlt k hk) hgr.size
end Go.Proofs.YtaefeakmlgjonaaGreat.Tz
/- The tree's small calls: Len, Bytes, last, width, kid, fresh, drop, weigh: what they return, and what the tree is then. -/
namespace Go.Proofs.YtaefeakmlgjonaaGreat.Tz
set_option maxRecDepth 100000
open Go.ChangeShapes Go.WideShapes Go.ChangeAt Go.RowKit

section
variable {o : Own} {w : World} {t : Nat} {s : St} {vn vg : Value}
theorem len_any (h : Rep o w t s vn vg) {n : Node} (hn : s.ns[s.top]? = some n) :
    Calls Tryz.prog 52 #[.pointer (some ⟨t, 0, none⟩)] w fun e w' => e = .returned (.int .i64 n.count) ∧ ∃ q, w' = w.drewN q := by
  have htop : s.top < s.ns.length := (List.getElem?_eq_some_iff.1 hn).1
  obtain ⟨b, cap, rfl, ho, h1, h2, hc⟩ := h.nodeCells (by omega)
  obtain ⟨⟨c0, c1, c2, c3⟩, hf⟩ := hc _ _ hn
  have a0 := h.at0; have a2 := h.at2
  unfold maxLen at h2
  clear hc hn h
  go_enter Tryz.func52, Tryz.ntmps52
  go_wp2
  go_quiet (fail)
  go_wp2
  go_ret
  exact ⟨rfl, _, rfl⟩
theorem last_any (h : Rep o w t s vn vg) {at_ : Nat} {n : Node} (hn : s.ns[at_]? = some n) :
    Calls Tryz.prog 94 #[.pointer (some ⟨t, 0, none⟩), .int .i64 at_] w fun e w' => e = .returned (.bool (decide (n.kids = []))) ∧ w' = w := by
  have htop : at_ < s.ns.length := (List.getElem?_eq_some_iff.1 hn).1
  obtain ⟨b, cap, rfl, ho, h1, h2, hc⟩ := h.nodeCells (by omega)
  obtain ⟨⟨c0, c1, c2, c3⟩, hf⟩ := hc _ _ hn
  obtain ⟨ka, kc, hk, k1, k2⟩ := (h.kids _ _ hn (by simp)).form
  rw [hk] at c1
  have a0 := h.at0; have a2 := h.at2
  unfold maxLen at h2
  have hd : decide (n.kids = []) = ((n.kids.length : Int) == 0) := by cases n.kids <;> simp; omega
  rw [hd]
  generalize n.kids.length = K at *
  clear hc hn h hk hd
  go_enter Tryz.func94, Tryz.ntmps94
  go_wp2
  go_ret
  exact ⟨rfl, rfl⟩
theorem width_any (h : Rep o w t s vn vg) {at_ : Nat} {n : Node} (hn : s.ns[at_]? = some n) (hw : n.lines.length < 1000000 ∧ n.kids.length < 1000000) :
    Calls Tryz.prog 192 #[.pointer (some ⟨t, 0, none⟩), .int .i64 at_] w fun e w' => e = .returned (.int .i64 ((n.lines.length + n.kids.length : Nat) : Int)) ∧ ∃ q, w' = w.drewN q := by
  have htop : at_ < s.ns.length := (List.getElem?_eq_some_iff.1 hn).1
  obtain ⟨b, cap, rfl, ho, h1, h2, hc⟩ := h.nodeCells (by omega)
  obtain ⟨⟨c0, c1, c2, c3⟩, hf⟩ := hc _ _ hn
  obtain ⟨ka, kc, hk, k1, k2⟩ := (h.kids _ _ hn (by simp)).form
  obtain ⟨la, lc, hl, l1, l2⟩ := (h.lines _ _ hn (by simp)).form
  rw [hk] at c1
  rw [hl] at c0
  have a0 := h.at0; have a2 := h.at2
  unfold maxLen at h2
  generalize n.kids.length = K at *
  generalize n.lines.length = L at *
  clear hc hn h hk hl
  go_enter Tryz.func192, Tryz.ntmps192
  go_wp2
  go_quiet (fail)
  go_wp2
  go_ret
  exact ⟨by simp, _, rfl⟩
end
end Go.Proofs.YtaefeakmlgjonaaGreat.Tz
/- The tree's calls kid and fresh. -/
namespace Go.Proofs.YtaefeakmlgjonaaGreat.Tz
set_option maxRecDepth 100000
open Go.ChangeShapes Go.WideShapes Go.ChangeAt Go.RowKit
set_option linter.unusedSimpArgs false

def St.cnt (s : St) (k : Nat) : Nat := ((s.ns[k]?).map (·.count)).getD 0
def St.byt (s : St) (k : Nat) : Nat := ((s.ns[k]?).map (·.bytes)).getD 0
theorem info3 : (Tryz.prog.info? 3).map (fun i => (i.zero, i.size, i.bytes)) = some (some (.int .i64 0), 1, 8) := by kernel_rfl
theorem info9 : (Tryz.prog.info? 9).map (fun i => (i.zero, i.size, i.bytes)) = some (some (.string ⟨#[]⟩), 1, 16) := by kernel_rfl
theorem infoN : (Tryz.prog.info? 141).map (fun i => (i.zero, i.size, i.bytes)) = some (some (.agg #[.slice none 0 0, .slice none 0 0, .int .i64 0, .int .i64 0]), 4, 64) := by kernel_rfl

theorem drew2 (w : World) (a b : Nat) : (w.drewN a).drewN b = w.drewN (a + b) := by
  have e : ∀ (n : Nat) (w : World), w.drewN n = { w with drawn := w.drawn + n } := by
    intro n
    induction n with
    | zero => intro w; rfl
    | succ n ih => intro w; simp [World.drewN, World.drew, ih, Nat.add_assoc, Nat.add_comm 1 n]
  simp [e, Nat.add_assoc]
section
variable {o : Own} {w : World} {t : Nat} {s : St} {vn vg : Value}
theorem kidsCells {x : Tag} (h : RepX x o w t s vn vg) {i : Nat} {n : Node} (hn : s.ns[i]? = some n) (hx : .kids i ≠ x) (hp : 0 < n.kids.length) : ∃ b cap, n.vk = .slice (some ⟨b, 0, none⟩) n.kids.length cap ∧ o b = .kids i ∧ n.kids.length ≤ cap ∧ cap ≤ maxLen ∧
    ∀ (j : Nat) k, n.kids[j]? = some k → w.cell? ⟨b, j, none⟩ = some (.int .i64 k) ∧ w.frozen? ⟨b, j, none⟩ = false := by
  obtain ⟨b, cap, cur, e, ho, hg, h1, h2, h3, h4⟩ := (h.kids i n hn hx).shape hp
  exact ⟨b, cap, e, ho, h1, h2, fun j k hj => row_cell hg h4 (cap := cap) (by simp [nums, hj])⟩
theorem linesCells {x : Tag} (h : RepX x o w t s vn vg) {i : Nat} {n : Node} (hn : s.ns[i]? = some n) (hx : .lines i ≠ x) (hp : 0 < n.lines.length) : ∃ b cap, n.vl = .slice (some ⟨b, 0, none⟩) n.lines.length cap ∧ o b = .lines i ∧ n.lines.length ≤ cap ∧ cap ≤ maxLen ∧
    ∀ (j : Nat) k, n.lines[j]? = some k → w.cell? ⟨b, j, none⟩ = some (.string k) ∧ w.frozen? ⟨b, j, none⟩ = false := by
  obtain ⟨b, cap, cur, e, ho, hg, h1, h2, h3, h4⟩ := (h.lines i n hn hx).shape hp
  exact ⟨b, cap, e, ho, h1, h2, fun j k hj => row_cell hg h4 (cap := cap) (by simp [strs, hj])⟩

theorem kid_any (h : Rep o w t s vn vg) {at_ i : Nat} {n : Node} (hn : s.ns[at_]? = some n) (hk0 : 0 < n.kids.length) (hks : ∀ k ∈ n.kids, k < s.ns.length) (hi : i < 2 ^ 40) :
    Calls Tryz.prog 95 #[.pointer (some ⟨t, 0, none⟩), .int .i64 at_, .int .i64 i] w fun e w' => (∃ k i' kd : Nat, e = .returned (.tuple #[.int .i64 k, .int .i64 i']) ∧ n.kids[k]? = some kd ∧ i = ((n.kids.take k).map s.cnt).sum + i' ∧ (i' < s.cnt kd ∨ k + 1 = n.kids.length)) ∧ ∃ q, w' = w.drewN q := by
  have htop : at_ < s.ns.length := (List.getElem?_eq_some_iff.1 hn).1
  obtain ⟨b, cap, rfl, ho, h1, h2, hc⟩ := h.nodeCells (by omega)
  obtain ⟨⟨c0, c1, c2, c3⟩, hf⟩ := hc _ _ hn
  obtain ⟨kb, kc, hvk, hko, hk1, hk2, hkc⟩ := kidsCells h hn (by simp) hk0
  rw [hvk] at c1
  have a0 := h.at0
  unfold maxLen at h2 hk2
  have hcnt : ∀ k, k < s.ns.length → w.cell? ⟨b, k * 4 + 2, none⟩ = some (.int .i64 (s.cnt k)) := fun k hk => by
    obtain ⟨⟨_, _, q2, _⟩, _⟩ := hc k s.ns[k] (List.getElem?_eq_getElem hk)
    rw [q2]; simp [St.cnt, List.getElem?_eq_getElem hk]
  generalize hN : s.ns.length = N at *
  clear hc hn h hvk c0 c2 c3 hf
  obtain ⟨ks, hkse⟩ : ∃ ks, ks = n.kids := ⟨_, rfl⟩
  rw [← hkse] at hk0 hks c1 hk1 hkc ⊢
  clear hkse hN
  go_enter Tryz.func95, Tryz.ntmps95
  go_wp2
  go_loopw [2, 9] (fun vi vk wr => ∃ k i' : Nat, k < ks.length ∧ vk = .int .i64 k ∧ vi = .int .i64 i' ∧ i = ((ks.take k).map s.cnt).sum + i' ∧ ∃ q, wr = w.drewN q) (fun _ vk _ => ks.length - (intOf vk).toNat)
  case atStart => exact ⟨0, i, hk0, rfl, rfl, by simp, 0, rfl⟩
  case round =>
    obtain ⟨k, i', hk, rfl, rfl, hsum, q, rfl⟩ := hrel
    have hkk : ks[k]? = some ks[k] := List.getElem?_eq_getElem hk
    have hkm : ks[k] < N := hks _ (List.getElem_mem hk)
    have hcell := (hkc k _ hkk).1
    have hct := hcnt _ hkm
    generalize ks[k] = kd at *
    have hs2 : ((ks.take (k + 1)).map s.cnt).sum = ((ks.take k).map s.cnt).sum + s.cnt kd := by
      rw [List.take_succ_eq_append_getElem hk]; have := List.getElem?_eq_some_iff.1 hkk; obtain ⟨_, e⟩ := this; rw [e]; simp
    have HS : Hid (((ks.take (k + 1)).map s.cnt).sum = ((ks.take k).map s.cnt).sum + s.cnt kd) := hs2
    have HQ : Hid (i = ((ks.take k).map s.cnt).sum + i') := hsum
    have HK : Hid (ks[k]? = some kd) := hkk
    have hib : i' < 2 ^ 40 := by omega
    generalize hC : s.cnt kd = C at hct HS
    have HC : Hid (s.cnt kd = C) := hC
    clear hC hsum hs2 hkk hkc hcnt hks
    by_cases hlt : (k : Int) < (ks.length : Int) - 1
    · by_cases hge : (C : Int) ≤ (i' : Int)
      · go_wp2
        go_quiet (fail)
        go_wp2
        go_quiet (fail)
        go_wp2
        go_roundw
        case rel => exact ⟨k + 1, i' - C, by omega, by go_num, by go_num, by rw [HS.out]; have := HQ.out; omega, _, rfl⟩
        case measure => simp [intOf]; omega
      · have hd : decide ((C : Int) ≤ (i' : Int)) = false := by simpa using hge
        go_wp2
        go_quiet (fail)
        go_wp2
        go_ret2
        exact ⟨⟨k, i', kd, rfl, HK.out, HQ.out, .inl (by rw [HC.out]; omega)⟩, _, drew2 _ _ _⟩
    · have hd : decide ((k : Int) < (ks.length : Int) - 1) = false := by simpa using hlt
      go_wp2
      go_quiet (fail)
      go_wp2
      go_ret2
      exact ⟨⟨k, i', kd, rfl, HK.out, HQ.out, .inr (by omega)⟩, _, drew2 _ _ _⟩

theorem Row.shorten {o : Own} {w : World} {g : Tag} {e : TypeId} {b n cap n' : Nat} {xs xs' : List Value} (h : Row o w g e 1 (.slice (some ⟨b, 0, none⟩) n cap) n xs) (hn : n' ≤ n) (hx : xs' = xs.take n') : Row o w g e 1 (.slice (some ⟨b, 0, none⟩) n' cap) n' xs' := by
  rcases h.1.2 with ⟨h0, _⟩ | ⟨b', cap', cur, e', _, hg, h1, h2, h3, h4⟩
  · cases h0
  · cases e'
    subst hx
    have hl : xs.length = n := by simpa using h.1.1
    refine ⟨⟨by simp; omega, .inr ⟨b, cap, cur, rfl, Nat.zero_le _, hg, by omega, h2, h3, ?_⟩⟩, h.2⟩
    rw [← h4, List.take_take]; congr 1; omega
/-- A number that was given up is used again. -/
theorem fresh_old (h : Rep o w t s vn vg) {g0 : List Nat} {a : Nat} (hg : s.gone = g0 ++ [a]) :
    Calls Tryz.prog 126 #[.pointer (some ⟨t, 0, none⟩)] w fun e w' => e = .returned (.int .i64 a) ∧ ∃ vg', Rep o w' t { s with gone := g0 } vn vg' ∧ Keeps o o w w' := by
  have hlen : s.gone.length = g0.length + 1 := by rw [hg]; simp
  obtain ⟨b, cap, cur, rfl, ho, hb, h1, h2, h3, h4⟩ := h.gone.shape (by omega)
  have hc : w.cell? ⟨b, g0.length, none⟩ = some (.int .i64 a) := (row_cell hb h4 (cap := cap) (by rw [hg]; simp [nums])).1
  have a0 := h.at0; have a1 := h.at1; have f1 := h.atF 1
  have HR : Hid (∀ vg', vg' = .slice (some ⟨b, 0, none⟩) g0.length cap → Rep o (w.setCell ⟨t, 1, none⟩ vg') t { s with gone := g0 } vn vg') := by
    rintro vg' rfl
    refine h.storeGone (w' := w) (KB.same rfl rfl rfl rfl h.lt) (h.gone.shorten (by omega) ?_)
    rw [hg]; simp [nums]
  have HK : Hid (∀ vg', Keeps o o w (w.setCell ⟨t, 1, none⟩ vg')) := fun vg' => (Keeps.refl o w).setCell (by rw [h.ot]; simp)
  rw [hlen] at a1 h1
  unfold maxLen at h2
  clear h hb h3 h4 hg hlen ho
  generalize g0.length = G at *
  go_enter Tryz.func126, Tryz.ntmps126
  go_wp2
  go_ret
  exact ⟨rfl, _, HR.out _ (by simp), HK.out _⟩
/-- The tree's struct behind a call or an append that turned one owner's row. -/
theorem RepX.treeKB {x g : Tag} {o o' : Own} {w w' : World} (h : RepX x o w t s vn vg) (k : KB g o o' w w') (hg : g ≠ .tree) : w'.cell? ⟨t, 0, none⟩ = some vn ∧ w'.cell? ⟨t, 1, none⟩ = some vg ∧ w'.cell? ⟨t, 2, none⟩ = some (.int .i64 s.top) ∧ ∀ j, w'.frozen? ⟨t, j, none⟩ = false := by
  have e : w'.heap[t]? = w.heap[t]? := k.block t h.tlt (by rw [h.ot]; exact fun e => hg e.symm)
  rw [h.tree] at e
  exact ⟨by simp [World.cell?, e], by simp [World.cell?, e], by simp [World.cell?, e], fun j => by simp [World.frozen?, e]⟩
/-- A new number, behind all. -/
theorem fresh_new (h : Rep o w t s vn vg) (hg : s.gone = []) (hn : s.ns.length < 1000000000) :
    Calls Tryz.prog 126 #[.pointer (some ⟨t, 0, none⟩)] w fun e w' => e = .returned (.int .i64 s.ns.length) ∧ ∃ o' vn', Rep o' w' t { s with ns := s.ns ++ [nilNode] } vn' vg ∧ Keeps o o' w w' := by
  obtain ⟨ga, gc, hv, _, _⟩ := h.gone.form
  have a0 := h.at0; have a1 := h.at1; have f0 := h.atF 0
  rw [hv, hg] at a1
  obtain ⟨i0, hi, hz0, hz1, hz2⟩ := info_parts infoN
  obtain ⟨na, nc, hvn, hn1, hn2⟩ := h.nodes.form
  have htl := h.tlt
  subst hvn
  have hown' : Hid (w.ownsRow 0 141 4 (.slice na s.ns.length nc) s.ns.length (s.ns.flatMap Node.cells)) := h.nodes.1
  have hnew : Hid (∀ (W : World) j u, nilNode.cells[j]? = some u → (W.alloc (.cells #[.slice none 0 0, .slice none 0 0, .int .i64 0, .int .i64 0] 141)).cell? ((⟨W.heap.size, 0, none⟩ : Addr).add j) = some u) := by
    intro W j u hj
    rw [Addr.add_lit, cell_at (alloc_new W _), Nat.zero_add, ← hj]
    match j with
    | 0 => rfl
    | 1 => rfl
    | 2 => rfl
    | 3 => rfl
    | j + 4 => simp [nilNode, Node.cells]
  have hone : Hid (∀ u ∈ nilNode.cells, u.oneCell' = true) := by intro u hu; simp [nilNode, Node.cells] at hu; rcases hu with rfl | rfl <;> rfl
  have HR : Hid (∀ (g cap : Nat) (w1 : World) (ob : Obj), w1.ownsRow 0 141 4 (.slice (some ⟨g, 0, none⟩) (s.ns.length + 1) cap) (s.ns.length + 1) (s.ns.flatMap Node.cells ++ nilNode.cells) → (w.alloc ob).grownBy w1 (Value.slice na s.ns.length nc).ownBlock →
      ((Value.slice na s.ns.length nc).ownBlock = some g ∨ g = w.heap.size + 1) → g < w1.heap.size → (w1.cell? ⟨t, 0, none⟩ = some (.slice na s.ns.length nc) ∧ w1.frozen? ⟨t, 0, none⟩ = false) ∧ ∃ o', Rep o' (w1.setCell ⟨t, 0, none⟩ (.slice (some ⟨g, 0, none⟩) (s.ns.length + 1) cap)) t { s with ns := s.ns ++ [nilNode] } (.slice (some ⟨g, 0, none⟩) (s.ns.length + 1) cap) vg ∧
        Keeps o o' w (w1.setCell ⟨t, 0, none⟩ (.slice (some ⟨g, 0, none⟩) (s.ns.length + 1) cap))) := by
    intro g cap w1 ob hown1 hgrow hat hlt
    have ha := h.alloc ob
    obtain ⟨o', hr', kb⟩ := ha.nodes.grown ha.lt hown1 hgrow (by rcases hat with e | e; exact .inl e; exact .inr (by rw [e]; simp)) hlt
    obtain ⟨q0, _, _, qf⟩ := ha.treeKB kb (by simp)
    have hrep := RepX.storeNodes (ns' := s.ns ++ [nilNode]) ha kb (by simpa using hr') (by
      intro i n hi
      rw [List.getElem?_append] at hi
      split at hi
      · exact .inl hi
      · right
        rename_i hge
        have : i - s.ns.length = 0 := by
          have := (List.getElem?_eq_some_iff.1 hi).1; simp at this; omega
        rw [this] at hi; simpa using hi.symm)
    refine ⟨⟨q0, qf 0⟩, o', hrep, ?_⟩
    exact (((Keeps.refl o w).alloc ob).trans (kb.keeps (by simp))).setCell (by rw [hrep.ot]; simp)
  unfold maxLen at hn2
  clear h hv hg
  generalize s.ns.length = N at *
  go_enter Tryz.func126, Tryz.ntmps126
  go_wp2_with (at_builtin; refine wpList_append_lies _ rfl (.tmp 35) (.tmp 37) 142 rfl 0 141 i0 _ 4 64 Tryz.underlying142 hi hz0 hz1 hz2 rfl (by decide) (.slice na N nc) N (s.ns.flatMap Node.cells) rfl (hown'.out.alloc _) ⟨w.heap.size, 0, none⟩ 1 1 nilNode.cells rfl rfl (hnew.out _) hone.out (by omega) (by unfold maxLen; omega) (by omega) (Nat.zero_le _) (w.heap.size + 1) (by simp) ?_; intro g cap w1 hown1 hgrow hat hlt; obtain ⟨⟨q0, qf⟩, HF⟩ := HR.out g cap w1 _ hown1 hgrow hat hlt; clear hown1 hgrow hat)
  obtain ⟨o', h1, h2⟩ := HF
  go_ret
  exact ⟨rfl, o', _, h1, h2⟩
end
end Go.Proofs.YtaefeakmlgjonaaGreat.Tz
/- The tree's calls weigh and drop. -/
namespace Go.Proofs.YtaefeakmlgjonaaGreat.Tz
set_option maxRecDepth 100000
open Go.ChangeShapes Go.WideShapes Go.ChangeAt Go.RowKit

def sizes (l : List ByteArray) : Nat := (l.map fun b => b.size).sum
theorem sizes_take (l : List ByteArray) (j : Nat) : sizes (l.take j) ≤ sizes l := by
  unfold sizes
  induction l generalizing j with
  | nil => simp
  | cons a r ih =>
    cases j with
    | zero => simp
    | succ j => have := ih j; simp at this ⊢; omega
theorem sum_take (l : List Nat) (f : Nat → Nat) (j : Nat) : ((l.take j).map f).sum ≤ (l.map f).sum := by
  induction l generalizing j with
  | nil => simp
  | cons a r ih =>
    cases j with
    | zero => simp
    | succ j => have := ih j; simp at this ⊢; omega
theorem sizes_succ {l : List ByteArray} {j : Nat} {x : ByteArray} (h : l[j]? = some x) : sizes (l.take (j + 1)) = sizes (l.take j) + x.size := by
  obtain ⟨hj, e⟩ := List.getElem?_eq_some_iff.1 h
  unfold sizes; rw [List.take_succ_eq_append_getElem hj, e]; simp
theorem sum_succ {l : List Nat} {f : Nat → Nat} {j x : Nat} (h : l[j]? = some x) : ((l.take (j + 1)).map f).sum = ((l.take j).map f).sum + f x := by
  obtain ⟨hj, e⟩ := List.getElem?_eq_some_iff.1 h
  rw [List.take_succ_eq_append_getElem hj, e]; simp

section
variable {o : Own} {w : World} {t : Nat} {s : St} {vn vg : Value}
/-- The counts of a node's are set. -/
def St.put (s : St) (i : Nat) (n : Node) : St := { s with ns := s.ns.set i n }
theorem put_len (s : St) (i : Nat) (n : Node) : (s.put i n).ns.length = s.ns.length := by simp [St.put]
theorem put_same {s : St} {i : Nat} (n : Node) (h : i < s.ns.length) : (s.put i n).ns[i]? = some n := by simp [St.put, h]
theorem put_ne {s : St} {i j : Nat} (n : Node) (h : j ≠ i) : (s.put i n).ns[j]? = s.ns[j]? := by simp [St.put, Ne.symm h]
theorem put_put (s : St) (i : Nat) (n m : Node) : (s.put i n).put i m = s.put i m := by simp [St.put]
theorem put_cnt {s : St} {i j : Nat} (n : Node) (h : j ≠ i) : (s.put i n).cnt j = s.cnt j := by simp [St.cnt, put_ne n h]
theorem put_byt {s : St} {i j : Nat} (n : Node) (h : j ≠ i) : (s.put i n).byt j = s.byt j := by simp [St.byt, put_ne n h]
theorem put_self {s : St} {i : Nat} {n : Node} (h : s.ns[i]? = some n) : s.put i n = s := by
  obtain ⟨hi, e⟩ := List.getElem?_eq_some_iff.1 h
  cases s; simp only [St.put, St.mk.injEq, and_true]; subst e; simp

theorem RepX.count (h : Rep o w t s vn vg) {i b m cap c : Nat} {n : Node} (hi : s.ns[i]? = some n) (hvn : vn = .slice (some ⟨b, 0, none⟩) m cap) : Rep o (w.setCell ⟨b, i * 4 + 2, none⟩ (.int .i64 c)) t (s.put i { n with count := c }) vn vg :=
  RepX.store h (n' := { n with count := c }) (.inr (.inr rfl)) hi hvn (by omega) rfl (h.lines i n hi (by simp)) (h.kids i n hi (by simp))
theorem RepX.byts (h : Rep o w t s vn vg) {i b m cap c : Nat} {n : Node} (hi : s.ns[i]? = some n) (hvn : vn = .slice (some ⟨b, 0, none⟩) m cap) : Rep o (w.setCell ⟨b, i * 4 + 3, none⟩ (.int .i64 c)) t (s.put i { n with bytes := c }) vn vg :=
  RepX.store h (n' := { n with bytes := c }) (.inr (.inr rfl)) hi hvn (by omega) rfl (h.lines i n hi (by simp)) (h.kids i n hi (by simp))
theorem RepX.ob (h : Rep o w t s vn vg) {b m cap : Nat} (hvn : vn = .slice (some ⟨b, 0, none⟩) m cap) : o b ≠ .free := by rw [h.nodes.2 b (by rw [hvn]; rfl)]; simp
/-- All that a walk reads of a node. -/
theorem RepX.cellsAt (h : Rep o w t s vn vg) {i b m cap : Nat} {n : Node} (hi : s.ns[i]? = some n) (hvn : vn = .slice (some ⟨b, 0, none⟩) m cap) :
    w.cell? ⟨t, 0, none⟩ = some vn ∧ w.cell? ⟨b, i * 4, none⟩ = some n.vl ∧ w.cell? ⟨b, i * 4 + 1, none⟩ = some n.vk ∧ w.cell? ⟨b, i * 4 + 2, none⟩ = some (.int .i64 n.count) ∧ w.cell? ⟨b, i * 4 + 3, none⟩ = some (.int .i64 n.bytes) ∧ (∀ j, w.frozen? ⟨b, j, none⟩ = false) := by
  have hl : i < s.ns.length := (List.getElem?_eq_some_iff.1 hi).1
  obtain ⟨b', cap', e, _, _, _, hc⟩ := h.nodeCells (by omega)
  rw [hvn] at e; cases e
  obtain ⟨⟨c0, c1, c2, c3⟩, _⟩ := hc i n hi
  obtain ⟨b2, cap2, cur, e2, _, hg, _⟩ := h.nodes.shape (by omega)
  rw [hvn] at e2; cases e2
  exact ⟨h.at0, c0, c1, c2, c3, fun j => frozen_at hg j⟩

/-- The slice of a row, and the cells of one of its elements. -/
theorem lineAt {x : Tag} (h : RepX x o w t s vn vg) {i j lc : Nat} {n : Node} {la : Option Addr} {L : Nat} (hn : s.ns[i]? = some n) (hx : .lines i ≠ x) (hv : n.vl = .slice la L lc) {y : ByteArray} (hy : n.lines[j]? = some y) : ∃ lb, la = some ⟨lb, 0, none⟩ ∧ w.cell? ⟨lb, j, none⟩ = some (.string y) := by
  have hj := (List.getElem?_eq_some_iff.1 hy).1
  obtain ⟨lb, cap, e, _, _, _, hc⟩ := linesCells h hn hx (by omega)
  rw [hv] at e; injection e with e1 e2 e3
  exact ⟨lb, e1, (hc j y hy).1⟩
theorem kidAt {x : Tag} (h : RepX x o w t s vn vg) {i j lc : Nat} {n : Node} {la : Option Addr} {L : Nat} (hn : s.ns[i]? = some n) (hx : .kids i ≠ x) (hv : n.vk = .slice la L lc) {y : Nat} (hy : n.kids[j]? = some y) : ∃ lb, la = some ⟨lb, 0, none⟩ ∧ w.cell? ⟨lb, j, none⟩ = some (.int .i64 y) := by
  have hj := (List.getElem?_eq_some_iff.1 hy).1
  obtain ⟨lb, cap, e, _, _, _, hc⟩ := kidsCells h hn hx (by omega)
  rw [hv] at e; injection e with e1 e2 e3
  exact ⟨lb, e1, (hc j y hy).1⟩

set_option maxHeartbeats 2000000 in
theorem weigh_any (h : Rep o w t s vn vg) {at_ : Nat} {n : Node} (hn : s.ns[at_]? = some n) (hks : ∀ k ∈ n.kids, k < s.ns.length ∧ k ≠ at_)
    (hb1 : n.lines.length + (n.kids.map s.cnt).sum < 2 ^ 62) (hb2 : sizes n.lines + (n.kids.map s.byt).sum < 2 ^ 62) :
    Calls Tryz.prog 208 #[.pointer (some ⟨t, 0, none⟩), .int .i64 at_] w fun e w' => e = .returned (.tuple #[]) ∧ Rep o w' t (s.put at_ { n with count := n.lines.length + (n.kids.map s.cnt).sum, bytes := sizes n.lines + (n.kids.map s.byt).sum }) vn vg ∧ Keeps o o w w' := by
  have htop : at_ < s.ns.length := (List.getElem?_eq_some_iff.1 hn).1
  obtain ⟨b, cap, hvn, ho, h1, h2, hcc⟩ := h.nodeCells (by omega)
  clear hcc
  obtain ⟨a0, c0, c1, c2, c3, hf⟩ := h.cellsAt hn hvn
  obtain ⟨la, lc, hl, l1, l2⟩ := (h.lines _ _ hn (by simp)).form
  obtain ⟨ka, kc, hk, k1, k2⟩ := (h.kids _ _ hn (by simp)).form
  have HR0 : Hid (Rep o (((w.setCell ⟨b, at_ * 4 + 2, none⟩ (.int .i64 n.lines.length))).setCell ⟨b, at_ * 4 + 3, none⟩ (.int .i64 ((0 : Nat) : Int))) t (s.put at_ { n with count := n.lines.length, bytes := 0 }) vn vg ∧
      Keeps o o w (((w.setCell ⟨b, at_ * 4 + 2, none⟩ (.int .i64 n.lines.length))).setCell ⟨b, at_ * 4 + 3, none⟩ (.int .i64 ((0 : Nat) : Int)))) := by
    have r1 := h.count (c := n.lines.length) hn hvn
    have r2 := r1.byts (c := 0) (put_same _ htop) hvn
    rw [put_put] at r2
    exact ⟨r2, ((Keeps.refl o w).setCell (h.ob hvn)).setCell (h.ob hvn)⟩
  have HC0 : Hid (n.vl = .slice la n.lines.length lc) := hl
  have HK0 : Hid (n.vk = .slice ka n.kids.length kc) := hk
  unfold maxLen at h2 l2 k2
  rw [hl] at c0
  rw [hk] at c1
  rw [hvn] at a0
  have HV : Hid (vn = .slice (some ⟨b, 0, none⟩) s.ns.length cap) := hvn
  have HKS : Hid (∀ k ∈ n.kids, k < s.ns.length ∧ k ≠ at_) := hks
  have HB1 : Hid (n.lines.length + (n.kids.map s.cnt).sum < 2 ^ 62) := hb1
  have HB2 : Hid (sizes n.lines + (n.kids.map s.byt).sum < 2 ^ 62) := hb2
  have hLb : n.lines.length < 2 ^ 62 := by omega
  clear h hn hl hk hvn hks hb1 hb2
  obtain ⟨L, HLe, hL⟩ : ∃ L, Hid (n.lines.length = L) ∧ n.lines.length = L := ⟨_, rfl, rfl⟩
  obtain ⟨K, HKe, hK⟩ : ∃ K, Hid (n.kids.length = K) ∧ n.kids.length = K := ⟨_, rfl, rfl⟩
  obtain ⟨N, HNe, hN⟩ : ∃ N, Hid (s.ns.length = N) ∧ s.ns.length = N := ⟨_, rfl, rfl⟩
  rw [hL] at c0 l1 hLb
  rw [hK] at c1 k1
  rw [hN] at a0 htop h1
  clear hL hK hN
  go_enter Tryz.func208, Tryz.ntmps208
  go_wp2
  go_loopw [31] (fun vi wr => ∃ j : Nat, j ≤ L ∧ vi = .int .i64 j ∧ Rep o wr t (s.put at_ { n with count := n.lines.length, bytes := sizes (n.lines.take j) }) vn vg ∧ Keeps o o w wr) (fun vi _ => L - (intOf vi).toNat)
  case atStart => exact ⟨0, Nat.zero_le _, rfl, by have := HR0.out.1; rw [HLe.out] at this; simpa [HLe.out, sizes] using this, by have := HR0.out.2; rw [HLe.out] at this; simpa using this⟩
  case round =>
    obtain ⟨j, hj, rfl, hr, hkp⟩ := hrel
    have hns := put_same (s := s) { n with count := n.lines.length, bytes := sizes (n.lines.take j) } (by rw [HNe.out]; exact htop)
    obtain ⟨d0, e0, e1, e2, e3, ef⟩ := hr.cellsAt hns HV.out
    by_cases hlt : j < L
    · have hy : n.lines[j]? = some (n.lines[j]'(by rw [HLe.out]; exact hlt)) := List.getElem?_eq_getElem _
      generalize n.lines[j]'(by rw [HLe.out]; exact hlt) = y at hy
      obtain ⟨lb, rfl, hyc⟩ := lineAt hr hns (by simp) HC0.out hy
      have hsz : Hid (sizes (n.lines.take (j + 1)) = sizes (n.lines.take j) + y.size) := sizes_succ hy
      have hbd : sizes (n.lines.take j) + y.size < 2 ^ 62 := by have := sizes_take n.lines (j + 1); rw [hsz.out] at this; have := HB2.out; omega
      have HR : Hid (∀ c, Rep o (wr.setCell ⟨b, at_ * 4 + 3, none⟩ (.int .i64 (c : Nat))) t (s.put at_ { n with count := n.lines.length, bytes := c }) vn vg) := fun c => by
        have := hr.byts (c := c) hns HV.out; rw [put_put] at this; exact this
      have HK : Hid (∀ v, Keeps o o w (wr.setCell ⟨b, at_ * 4 + 3, none⟩ v)) := fun v => hkp.setCell (hr.ob HV.out)
      generalize sizes (n.lines.take j) = Z at *
      clear hr hkp hns hy a0 c0 c1 c2 c3 hf d0 e0 e1 e2 HR0
      go_wp2
      go_roundw
      case rel => exact ⟨j + 1, by omega, by go_num, by have := HR.out (Z + y.size); rw [hsz.out]; simpa using this, HK.out _⟩
      case measure => simp [intOf]; omega
    · obtain rfl : j = L := by omega
      have eT : n.lines.take j = n.lines := by rw [← HLe.out]; simp
      rw [eT] at hr hns e3
      have HRr : Hid (Rep o wr t (s.put at_ { n with count := n.lines.length, bytes := sizes n.lines }) vn vg ∧ Keeps o o w wr) := ⟨hr, hkp⟩
      rw [HV.out, HNe.out] at d0
      have e1' : wr.cell? ⟨b, at_ * 4 + 1, none⟩ = some (.slice ka K kc) := by rw [e1]; show some n.vk = _; rw [HK0.out, HKe.out]
      clear hr hkp hns eT e0 e1 e2 e3 a0 c0 c1 c2 c3 hf HR0 ef
      go_wp2
      go_loopw [50] (fun vi wr2 => ∃ i : Nat, i ≤ K ∧ vi = .int .i64 i ∧ Rep o wr2 t (s.put at_ { n with count := n.lines.length + ((n.kids.take i).map s.cnt).sum, bytes := sizes n.lines + ((n.kids.take i).map s.byt).sum }) vn vg ∧ Keeps o o w wr2) (fun vi _ => K - (intOf vi).toNat)
      case atStart => exact ⟨0, Nat.zero_le _, rfl, by simpa using HRr.out.1, HRr.out.2⟩
      case round =>
        obtain ⟨i, hi, rfl, hr, hkp⟩ := hrel
        have hns := put_same (s := s) { n with count := n.lines.length + ((n.kids.take i).map s.cnt).sum, bytes := sizes n.lines + ((n.kids.take i).map s.byt).sum } (by rw [HNe.out]; exact htop)
        obtain ⟨d0, e0, e1, e2, e3, ef⟩ := hr.cellsAt hns HV.out
        rw [HV.out, HNe.out] at d0
        by_cases hlt2 : i < K
        · have hy : n.kids[i]? = some (n.kids[i]'(by rw [HKe.out]; exact hlt2)) := List.getElem?_eq_getElem _
          generalize n.kids[i]'(by rw [HKe.out]; exact hlt2) = y at hy
          obtain ⟨lb, rfl, hyc⟩ := kidAt hr hns (by simp) HK0.out hy
          obtain ⟨hyN, hyne⟩ := HKS.out y (List.mem_of_getElem? hy)
          have hyp : (s.put at_ { n with count := n.lines.length + ((n.kids.take i).map s.cnt).sum, bytes := sizes n.lines + ((n.kids.take i).map s.byt).sum }).ns[y]? = some s.ns[y] := by rw [put_ne _ hyne]; exact List.getElem?_eq_getElem hyN
          obtain ⟨qq, g0, g1, g2, g3, qf⟩ := hr.cellsAt hyp HV.out
          clear qq g0 g1 qf e0 e1 HRr
          have ecn : s.ns[y].count = s.cnt y := by simp [St.cnt, hyN]
          have ebt : s.ns[y].bytes = s.byt y := by simp [St.byt, hyN]
          rw [ecn] at g2
          rw [ebt] at g3
          have hs1 : Hid (((n.kids.take (i + 1)).map s.cnt).sum = ((n.kids.take i).map s.cnt).sum + s.cnt y) := sum_succ hy
          have hs2 : Hid (((n.kids.take (i + 1)).map s.byt).sum = ((n.kids.take i).map s.byt).sum + s.byt y) := sum_succ hy
          have hbd1 : n.lines.length + ((n.kids.take i).map s.cnt).sum + s.cnt y < 2 ^ 62 := by have := sum_take n.kids s.cnt (i + 1); rw [hs1.out] at this; have := HB1.out; omega
          have hbd2 : sizes n.lines + ((n.kids.take i).map s.byt).sum + s.byt y < 2 ^ 62 := by have := sum_take n.kids s.byt (i + 1); rw [hs2.out] at this; have := HB2.out; omega
          have HR : Hid (∀ c d, Rep o ((wr.setCell ⟨b, at_ * 4 + 2, none⟩ (.int .i64 (c : Nat))).setCell ⟨b, at_ * 4 + 3, none⟩ (.int .i64 (d : Nat))) t (s.put at_ { n with count := c, bytes := d }) vn vg) := fun c d => by
            have r1 := hr.count (c := c) hns HV.out
            rw [put_put] at r1
            have r2 := r1.byts (c := d) (put_same _ (by rw [HNe.out]; exact htop)) HV.out
            rw [put_put] at r2; exact r2
          have HK : Hid (∀ v u, Keeps o o w ((wr.setCell ⟨b, at_ * 4 + 2, none⟩ v).setCell ⟨b, at_ * 4 + 3, none⟩ u)) := fun v u => (hkp.setCell (hr.ob HV.out)).setCell (hr.ob HV.out)
          have hyN' : y < N := by rw [← HNe.out]; exact hyN
          generalize ((n.kids.take i).map s.cnt).sum = Z1 at *
          generalize ((n.kids.take i).map s.byt).sum = Z2 at *
          clear hr hkp hns hy hyp hyN ecn ebt
          generalize s.cnt y = Y1 at *
          generalize s.byt y = Y2 at *
          generalize n.lines.length = LL at *
          generalize sizes n.lines = SS at *
          go_wp2
          go_region
          all_goals go_wp2
          all_goals go_region
          all_goals go_wp2
          go_roundw
          case rel => exact ⟨i + 1, by omega, by go_num, by have := ((HR.out (LL + Z1 + Y1) (SS + Z2 + Y2)).drew).drew; rw [hs1.out, hs2.out, ← Nat.add_assoc, ← Nat.add_assoc]; simpa using this, ((HK.out _ _).drew).drew⟩
          case measure => simp [intOf]; omega
        · obtain rfl : i = K := by omega
          have eT : n.kids.take i = n.kids := by rw [← HKe.out]; simp
          rw [eT] at hr
          have HF : Hid (Rep o wr t (s.put at_ { n with count := n.lines.length + (n.kids.map s.cnt).sum, bytes := sizes n.lines + (n.kids.map s.byt).sum }) vn vg ∧ Keeps o o w wr) := ⟨hr, hkp⟩
          clear hr hkp hns eT e0 e1 e2 e3 ef d0 HRr
          go_wp2
          go_end0
          exact ⟨rfl, HF.out⟩
end
end Go.Proofs.YtaefeakmlgjonaaGreat.Tz
/- The tree's calls drop and halves. -/
namespace Go.Proofs.YtaefeakmlgjonaaGreat.Tz
set_option maxRecDepth 100000
open Go.ChangeShapes Go.WideShapes Go.ChangeAt Go.RowKit

section
variable {o : Own} {w : World} {t : Nat} {s : St} {vn vg : Value}
/-- The tree is 's'' behind it, and nothing that was free has turned. -/
def Did (o : Own) (w : World) (t : Nat) (s' : St) (w' : World) : Prop := ∃ o' vn' vg', Rep o' w' t s' vn' vg' ∧ Keeps o o' w w'
theorem rnil {o : Own} {w : World} {g : Tag} {e : TypeId} : Row o w g e 1 (.slice none 0 0) 0 [] := ⟨World.ownsRow_nil _ _ _ _, fun k hk => by simp [Value.ownBlock] at hk⟩
/-- A node is emptied. -/
theorem RepX.empty {x : Tag} (h : RepX x o w t s vn vg) {i b m cap : Nat} {n : Node} (hx : x = .lines i ∨ x = .kids i ∨ x = .free) (hi : s.ns[i]? = some n) (hvn : vn = .slice (some ⟨b, 0, none⟩) m cap) (hk : Row o w (.kids i) 3 1 n.vk n.kids.length (nums n.kids)) :
    Rep o ((((w.setCell ⟨b, i * 4, none⟩ (.slice none 0 0)).setCell ⟨b, i * 4 + 1, none⟩ (.slice none 0 0)).setCell ⟨b, i * 4 + 2, none⟩ (.int .i64 0)).setCell ⟨b, i * 4 + 3, none⟩ (.int .i64 0)) t (s.put i nilNode) vn vg := by
  have hlen : i < s.ns.length := (List.getElem?_eq_some_iff.1 hi).1
  have r0 : Rep o (w.setCell ⟨b, i * 4, none⟩ (.slice none 0 0)) t (s.put i { n with vl := .slice none 0 0, lines := [] }) vn vg := RepX.store h (n' := { n with vl := .slice none 0 0, lines := [] }) (j := 0) hx hi hvn (by omega) rfl rnil hk
  have r1 : Rep o ((w.setCell ⟨b, i * 4, none⟩ (.slice none 0 0)).setCell ⟨b, i * 4 + 1, none⟩ (.slice none 0 0)) t ((s.put i { n with vl := .slice none 0 0, lines := [] }).put i { n with vl := .slice none 0 0, lines := [], vk := .slice none 0 0, kids := [] }) vn vg :=
    RepX.store r0 (n' := { n with vl := .slice none 0 0, lines := [], vk := .slice none 0 0, kids := [] }) (j := 1) (.inr (.inr rfl)) (put_same _ hlen) hvn (by omega) rfl rnil rnil
  rw [put_put] at r1
  have r2 := r1.count (c := 0) (put_same _ hlen) hvn
  rw [put_put] at r2
  have r3 := r2.byts (c := 0) (put_same _ hlen) hvn
  rw [put_put] at r3
  exact r3
theorem drop_any (h : Rep o w t s vn vg) {at_ : Nat} {n : Node} (hn : s.ns[at_]? = some n) (hg : s.gone.length < 1000000000) :
    Calls Tryz.prog 210 #[.pointer (some ⟨t, 0, none⟩), .int .i64 at_] w fun e w' => e = .returned (.tuple #[]) ∧ Did o w t { s.put at_ nilNode with gone := s.gone ++ [at_] } w' := by
  have htop : at_ < s.ns.length := (List.getElem?_eq_some_iff.1 hn).1
  obtain ⟨b, cap, hvn, ho, h1, h2, hcc⟩ := h.nodeCells (by omega)
  clear hcc
  obtain ⟨a0, c0, c1, c2, c3, hf⟩ := h.cellsAt hn hvn
  have hob := h.ob hvn
  have hr := RepX.empty h (.inr (.inr rfl)) hn hvn (h.kids _ _ hn (by simp))
  have hk : Keeps o o w ((((w.setCell ⟨b, at_ * 4, none⟩ (.slice none 0 0)).setCell ⟨b, at_ * 4 + 1, none⟩ (.slice none 0 0)).setCell ⟨b, at_ * 4 + 2, none⟩ (.int .i64 0)).setCell ⟨b, at_ * 4 + 3, none⟩ (.int .i64 0)) :=
    ((((Keeps.refl o w).setCell hob).setCell hob).setCell hob).setCell hob
  have hset : w.setCells b (at_ * 4) [.slice none 0 0, .slice none 0 0, .int .i64 0, .int .i64 0] = ((((w.setCell ⟨b, at_ * 4, none⟩ (.slice none 0 0)).setCell ⟨b, at_ * 4 + 1, none⟩ (.slice none 0 0)).setCell ⟨b, at_ * 4 + 2, none⟩ (.int .i64 0)).setCell ⟨b, at_ * 4 + 3, none⟩ (.int .i64 0)) := rfl
  rw [← hset] at hr hk
  have hth : Hid (w.there b (at_ * 4) 4) := by
    intro j hj
    refine ⟨?_, hf _⟩
    match j, hj with
    | 0, _ => rw [Nat.add_zero, c0]; rfl
    | 1, _ => rw [c1]; rfl
    | 2, _ => rw [c2]; rfl
    | 3, _ => rw [c3]; rfl
  obtain ⟨ga, gc, hgv, g1, g2⟩ := h.gone.form
  obtain ⟨W1, hW1⟩ : ∃ W1, W1 = w.setCells b (at_ * 4) [.slice none 0 0, .slice none 0 0, .int .i64 0, .int .i64 0] := ⟨_, rfl⟩
  rw [← hW1] at hr hk
  have hW : Hid (w.setCells b (at_ * 4) [.slice none 0 0, .slice none 0 0, .int .i64 0, .int .i64 0] = W1) := hW1.symm
  have q1 := hr.at1; have f1 := hr.atF 1
  obtain ⟨i0, hi, hz0, hz1, hz2⟩ := info_parts info3
  have hsz : (Tryz.prog.info? 141).map (·.size) = some 4 := by kernel_rfl
  subst hgv
  have hown : Hid (W1.ownsRow 0 3 1 (.slice ga s.gone.length gc) s.gone.length (nums s.gone)) := hr.gone.1
  have hnew : Hid (∀ j u, ([Value.int .i64 at_] : List Value)[j]? = some u → (W1.alloc (.cells #[.int .i64 at_] 3)).cell? ((⟨W1.heap.size, 0, none⟩ : Addr).add j) = some u) := by
    intro j u hj
    rw [Addr.add_lit, cell_at (alloc_new W1 _), Nat.zero_add, ← hj]
    match j with
    | 0 => rfl
    | j + 1 => simp
  have hone : Hid (∀ u ∈ ([Value.int .i64 at_] : List Value), u.oneCell' = true) := by intro u hu; simp at hu; rw [hu]; rfl
  have HR : Hid (∀ (g cap : Nat) (w1 : World) (ob : Obj), w1.ownsRow 0 3 1 (.slice (some ⟨g, 0, none⟩) (s.gone.length + 1) cap) (s.gone.length + 1) (nums s.gone ++ [.int .i64 at_]) → (W1.alloc ob).grownBy w1 (Value.slice ga s.gone.length gc).ownBlock →
      ((Value.slice ga s.gone.length gc).ownBlock = some g ∨ g = W1.heap.size + 1) → g < w1.heap.size → (w1.cell? ⟨t, 1, none⟩ = some (.slice ga s.gone.length gc) ∧ w1.frozen? ⟨t, 1, none⟩ = false) ∧ ∃ o', Rep o' (w1.setCell ⟨t, 1, none⟩ (.slice (some ⟨g, 0, none⟩) (s.gone.length + 1) cap)) t { s.put at_ nilNode with gone := s.gone ++ [at_] } vn (.slice (some ⟨g, 0, none⟩) (s.gone.length + 1) cap) ∧
        Keeps o o' w (w1.setCell ⟨t, 1, none⟩ (.slice (some ⟨g, 0, none⟩) (s.gone.length + 1) cap))) := by
    intro g cap w1 ob hown1 hgrow hat hlt
    have ha := hr.alloc ob
    obtain ⟨o', hr', kb⟩ := ha.gone.grown ha.lt hown1 hgrow (by rcases hat with e | e; exact .inl e; exact .inr (by rw [e]; simp)) hlt
    obtain ⟨_, q0, _, qf⟩ := ha.treeKB kb (by simp)
    have hrep := RepX.storeGone (gone' := s.gone ++ [at_]) ha kb (by simpa [nums] using hr')
    refine ⟨⟨q0, qf 1⟩, o', hrep, ?_⟩
    exact ((hk.alloc ob).trans (kb.keeps (by simp))).setCell (by rw [hrep.ot]; simp)
  unfold maxLen at h2 g2
  subst hvn
  have hall : Hid ((#[.slice none 0 0, .slice none 0 0, .int .i64 0, .int .i64 0] : Array Value).all (·.oneCell') = true) := all_oneCell_toArray (cs := [.slice none 0 0, .slice none 0 0, .int .i64 0, .int .i64 0]) (by intro v hv; simp at hv; rcases hv with rfl | rfl <;> rfl)
  have hsz' : Hid ((Tryz.prog.info? 141).map (·.size) = some 4) := hsz
  clear hn h hset hr hk hW1 c0 c1 c2 c3 hf hsz
  generalize s.gone.length = G at *
  go_enter Tryz.func210, Tryz.ntmps210
  go_wp2_with (first
    | (refine wpList_store_mid (by rfl) 141 (.tmp 10) (.tmp 9) (by rfl) b (at_ * 4) #[.slice none 0 0, .slice none 0 0, .int .i64 0, .int .i64 0] (by rfl) (by rfl) hth.out hsz'.out hall.out ?_; rw [hW.out])
    | (at_builtin; refine wpList_append_lies _ rfl (.tmp 15) (.tmp 17) 120 rfl 0 3 i0 _ 1 8 Tryz.underlying120 hi hz0 hz1 hz2 rfl (by decide) (.slice ga G gc) G (nums s.gone) rfl (hown.out.alloc _) ⟨W1.heap.size, 0, none⟩ 1 1 [.int .i64 at_] rfl rfl hnew.out hone.out (by omega) (by unfold maxLen; omega) (by omega) (Nat.zero_le _) (W1.heap.size + 1) (by simp) ?_; intro g cap w1 hown1 hgrow hat hlt; obtain ⟨⟨q0, qf⟩, HF⟩ := HR.out g cap w1 _ hown1 hgrow hat hlt; clear hown1 hgrow hat))
  obtain ⟨o', h1, h2⟩ := HF
  go_end0
  exact ⟨rfl, o', _, _, h1, h2⟩
end
end Go.Proofs.YtaefeakmlgjonaaGreat.Tz
