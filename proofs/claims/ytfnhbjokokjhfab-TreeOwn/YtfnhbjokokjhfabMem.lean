/- What it means that memory holds a tree: its struct, its list of nodes, the list of numbers that are free, each node's lines and kids, all in blocks of their own ('o' says whose a block is). -/
import Derived.Test.YtfnhbjokokjhfabRows
import Derived.WalkKit
import Derived.ProofKit
import Derived.OpenShut
import Derived.BigQuiet
import Derived.Deep.QuietTactic
import Derived.Below
import Derived.LoopTactic
import Derived.RegionTactic
import Derived.Deep.RegionLaw
import Derived.Laws.AppendOwn
import Derived.Laws.CopyOwn
namespace Go.Proofs.Ytfnhbjokokjhfab
open Go.ChangeShapes Go.WideShapes Go.ChangeAt Go.RowKit
set_option linter.unusedVariables false

/-- Whose a block is. -/
inductive Tag where
  | free | tree | nodes | gone | lines (i : Nat) | kids (i : Nat)
deriving DecidableEq

abbrev Own := Nat → Tag

structure Node where
  vl : Value
  vk : Value
  lines : List ByteArray
  kids : List Nat
  count : Nat
  bytes : Nat

def Node.cells (n : Node) : List Value := [n.vl, n.vk, .int .i64 n.count, .int .i64 n.bytes]
def nilNode : Node := ⟨.slice none 0 0, .slice none 0 0, [], [], 0, 0⟩

structure St where
  ns : List Node
  gone : List Nat
  top : Nat

def strs (l : List ByteArray) : List Value := l.map Value.string
def nums (l : List Nat) : List Value := l.map fun (n : Nat) => Value.int .i64 n

/-- The slice 'v' of 'n' elements (type 'e', 'size' cells each) holds the cells 'xs', in a block of owner 'g' that begins with it. -/
def Row (o : Own) (w : World) (g : Tag) (e : TypeId) (size : Nat) (v : Value) (n : Nat) (xs : List Value) : Prop :=
  w.ownsRow 0 e size v n xs ∧ ∀ k, v.ownBlock = some k → o k = g

/-- Memory holds the tree 's' at block 't'; of the rows of owner 'x' nothing is said. -/
structure RepX (x : Tag) (o : Own) (w : World) (t : Nat) (s : St) (vn vg : Value) : Prop where
  ot : o t = .tree
  tree : w.heap[t]? = some (.cells #[vn, vg, .int .i64 s.top] 45 (0, 0))
  nodes : Row o w .nodes 53 4 vn s.ns.length (s.ns.flatMap Node.cells)
  gone : Row o w .gone 3 1 vg s.gone.length (nums s.gone)
  lines : ∀ i n, s.ns[i]? = some n → .lines i ≠ x → Row o w (.lines i) 9 1 n.vl n.lines.length (strs n.lines)
  kids : ∀ i n, s.ns[i]? = some n → .kids i ≠ x → Row o w (.kids i) 3 1 n.vk n.kids.length (nums n.kids)
  lt : ∀ k, o k ≠ .free → k < w.heap.size

/-- .. with no row left out. -/
abbrev Rep (o : Own) (w : World) (t : Nat) (s : St) (vn vg : Value) : Prop := RepX .free o w t s vn vg

/-- From w to w' nothing has turned that was free; what was free is free. -/
structure Keeps (o o' : Own) (w w' : World) : Prop where
  os : w'.os = w.os
  tape : w'.tape = w.tape
  output : w'.output = w.output
  size : w.heap.size ≤ w'.heap.size
  block : ∀ k, k < w.heap.size → o k = .free → w'.heap[k]? = w.heap[k]?
  own : ∀ k, k < w.heap.size → o k = .free → o' k = .free

theorem Keeps.refl (o : Own) (w : World) : Keeps o o w w := ⟨rfl, rfl, rfl, Nat.le_refl _, fun _ _ _ => rfl, fun _ _ h => h⟩
theorem Keeps.trans {o o' o'' : Own} {w w' w'' : World} (h : Keeps o o' w w') (h' : Keeps o' o'' w' w'') : Keeps o o'' w w'' :=
  ⟨h'.os.trans h.os, h'.tape.trans h.tape, h'.output.trans h.output, Nat.le_trans h.size h'.size,
   fun k hk hf => (h'.block k (Nat.lt_of_lt_of_le hk h.size) (h.own k hk hf)).trans (h.block k hk hf),
   fun k hk hf => h'.own k (Nat.lt_of_lt_of_le hk h.size) (h.own k hk hf)⟩
theorem Keeps.below {o o' : Own} {w w' : World} {B : Nat} (h : Keeps o o' w w') (hB : B ≤ w.heap.size) (hf : ∀ k, k < B → o k = .free) : Below B w w' :=
  ⟨h.os, h.tape, h.output, h.size, fun k hk => h.block k (by omega) (hf k hk)⟩

theorem Row.same {o : Own} {w w' : World} {g : Tag} {e : TypeId} {size n : Nat} {v : Value} {xs : List Value} (h : Row o w g e size v n xs)
    (hs : ∀ k, v.ownBlock = some k → w'.heap[k]? = w.heap[k]?) : Row o w' g e size v n xs := by
  refine ⟨⟨h.1.1, ?_⟩, h.2⟩
  rcases h.1.2 with hn | ⟨b, cap, cur, rfl, hb, hg, rest⟩
  · exact .inl hn
  · exact .inr ⟨b, cap, cur, rfl, hb, (hs b rfl).trans hg, rest⟩
theorem Row.own {o o' : Own} {w : World} {g : Tag} {e : TypeId} {size n : Nat} {v : Value} {xs : List Value} (h : Row o w g e size v n xs)
    (hs : ∀ k, v.ownBlock = some k → o' k = o k) : Row o' w g e size v n xs := ⟨h.1, fun k hk => (hs k hk).trans (h.2 k hk)⟩
theorem Row.lt {o : Own} {w : World} {g : Tag} {e : TypeId} {size n : Nat} {v : Value} {xs : List Value} (h : Row o w g e size v n xs) {k : Nat} (hk : v.ownBlock = some k) : k < w.heap.size := (h.1.lt k hk).2
theorem Row.shape {o : Own} {w : World} {g : Tag} {e : TypeId} {size n : Nat} {v : Value} {xs : List Value} (h : Row o w g e size v n xs) (hn : 0 < n) :
    ∃ b cap cur, v = .slice (some ⟨b, 0, none⟩) n cap ∧ o b = g ∧ w.heap[b]? = some (.cells cur e (0, 0)) ∧ n ≤ cap ∧ cap ≤ maxLen ∧ cur.size = cap * size ∧ cur.toList.take (n * size) = xs := by
  rcases h.1.2 with ⟨_, h0⟩ | ⟨b, cap, cur, rfl, hb, hg, rest⟩
  · omega
  · exact ⟨b, cap, cur, rfl, h.2 b rfl, hg, rest⟩
/-- The slice's value, whichever it is. -/
theorem Row.form {o : Own} {w : World} {g : Tag} {e : TypeId} {size n : Nat} {v : Value} {xs : List Value} (h : Row o w g e size v n xs) :
    ∃ a cap, v = .slice a n cap ∧ n ≤ cap ∧ cap ≤ maxLen := by
  rcases h.1.2 with ⟨rfl, rfl⟩ | ⟨b, cap, cur, rfl, hb, hg, h1, h2, rest⟩
  · exact ⟨none, 0, rfl, Nat.le_refl _, by simp [maxLen]⟩
  · exact ⟨_, cap, rfl, h1, h2⟩
theorem row_cell {w : World} {b size n cap : Nat} {e : TypeId} {cur : Array Value} {xs : List Value} (hg : w.heap[b]? = some (.cells cur e (0, 0))) (ht : cur.toList.take (n * size) = xs) {j : Nat} {v : Value} (hj : xs[j]? = some v) :
    w.cell? ⟨b, j, none⟩ = some v ∧ w.frozen? ⟨b, j, none⟩ = false := by
  subst ht
  have h2 : cur[j]? = some v := by
    rw [List.getElem?_take] at hj
    split at hj
    · simpa using hj
    · cases hj
  exact ⟨by simp [World.cell?, hg, h2], by simp [World.frozen?, hg]⟩

theorem flat_get {ns : List Node} {i : Nat} {n : Node} (h : ns[i]? = some n) (j : Nat) (hj : j < 4) : (ns.flatMap Node.cells)[i * 4 + j]? = n.cells[j]? := by
  induction ns generalizing i with
  | nil => simp at h
  | cons m ms ih =>
    rw [List.flatMap_cons]
    cases i with
    | zero =>
      simp at h; subst h
      rw [List.getElem?_append_left (by simp [Node.cells]; omega)]
      simp
    | succ i =>
      simp at h
      rw [List.getElem?_append_right (by simp [Node.cells]; omega)]
      have : (i + 1) * 4 + j - m.cells.length = i * 4 + j := by simp [Node.cells]; omega
      rw [this]; exact ih h
theorem flat_len (ns : List Node) : (ns.flatMap Node.cells).length = ns.length * 4 := by
  induction ns with
  | nil => rfl
  | cons m ms ih => rw [List.flatMap_cons, List.length_append, ih]; simp [Node.cells]; omega

section
variable {x : Tag} {o : Own} {w : World} {t : Nat} {s : St} {vn vg : Value}
theorem RepX.at0 (h : RepX x o w t s vn vg) : w.cell? ⟨t, 0, none⟩ = some vn := by simp [World.cell?, h.tree]
theorem RepX.at1 (h : RepX x o w t s vn vg) : w.cell? ⟨t, 1, none⟩ = some vg := by simp [World.cell?, h.tree]
theorem RepX.at2 (h : RepX x o w t s vn vg) : w.cell? ⟨t, 2, none⟩ = some (.int .i64 s.top) := by simp [World.cell?, h.tree]
theorem RepX.atF (h : RepX x o w t s vn vg) (j : Nat) : w.frozen? ⟨t, j, none⟩ = false := by simp [World.frozen?, h.tree]
theorem RepX.tlt (h : RepX x o w t s vn vg) : t < w.heap.size := h.lt t (by rw [h.ot]; simp)
/-- The nodes' slice and the cells of each node. -/
theorem RepX.nodeCells (h : RepX x o w t s vn vg) (hn : 0 < s.ns.length) : ∃ b cap, vn = .slice (some ⟨b, 0, none⟩) s.ns.length cap ∧ o b = .nodes ∧ s.ns.length ≤ cap ∧ cap ≤ maxLen ∧
    ∀ i n, s.ns[i]? = some n → (w.cell? ⟨b, i * 4, none⟩ = some n.vl ∧ w.cell? ⟨b, i * 4 + 1, none⟩ = some n.vk ∧ w.cell? ⟨b, i * 4 + 2, none⟩ = some (.int .i64 n.count) ∧ w.cell? ⟨b, i * 4 + 3, none⟩ = some (.int .i64 n.bytes)) ∧
      (∀ j, j < 4 → w.frozen? ⟨b, i * 4 + j, none⟩ = false) := by
  obtain ⟨b, cap, cur, rfl, ho, hg, h1, h2, h3, h4⟩ := h.nodes.shape hn
  refine ⟨b, cap, rfl, ho, h1, h2, fun i n hi => ?_⟩
  have c : ∀ j v, j < 4 → n.cells[j]? = some v → w.cell? ⟨b, i * 4 + j, none⟩ = some v := fun j v hj hv => (row_cell hg h4 (cap := cap) ((flat_get hi j hj).trans hv)).1
  refine ⟨⟨c 0 _ (by omega) rfl, c 1 _ (by omega) rfl, c 2 _ (by omega) rfl, c 3 _ (by omega) rfl⟩, fun j _ => by simp [World.frozen?, hg]⟩
/-- Worlds of one heap hold the same. -/
theorem RepX.heap (h : RepX x o w t s vn vg) {w' : World} (he : w'.heap = w.heap) : RepX x o w' t s vn vg := by
  have r : ∀ {g e size v n xs}, Row o w g e size v n xs → Row o w' g e size v n xs := fun hr => hr.same fun k _ => by rw [he]
  exact ⟨h.ot, by rw [he]; exact h.tree, r h.nodes, r h.gone, fun i n hi hx => r (h.lines i n hi hx), fun i n hi hx => r (h.kids i n hi hx), fun k hk => by rw [he]; exact h.lt k hk⟩
end
theorem drewN_heap (w : World) (n : Nat) : (w.drewN n).heap = w.heap := by induction n generalizing w <;> simp_all [World.drewN]
theorem Keeps.drewN (o : Own) (w : World) (n : Nat) : Keeps o o w (w.drewN n) := by
  refine ⟨?_, ?_, ?_, by rw [drewN_heap]; exact Nat.le_refl _, fun _ _ _ => by rw [drewN_heap], fun _ _ h => h⟩
  all_goals (induction n generalizing w <;> simp_all [World.drewN])

end Go.Proofs.Ytfnhbjokokjhfab
