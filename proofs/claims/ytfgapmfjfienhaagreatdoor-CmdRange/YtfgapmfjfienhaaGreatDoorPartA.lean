/- Texts that the proof of the law stands on: VB, VA, Leaf, Ref, Cls, AA, AH. -/
import Derived.Test.YtfgapmfjfienhaaGreatDoorRows
import Derived.Maps.RangeWalk
import Derived.Maps.Ext
import Derived.WalkKit
import Derived.ProofKit
import Derived.OpenShut
import Derived.Maps.AppendAt
import Derived.Deep.AppendLies
import Derived.Laws.IdiomStrings
import Derived.Laws.EntriesVeiled
import Derived.WalkSmall
import Derived.BigCall
import Derived.BigQuiet
import Derived.BigRegion
import Derived.Deep.QuietTactic
import Derived.Below
import Derived.LoopTactic
import Derived.RegionTactic
import Derived.Deep.RegionLaw
import Derived.Deep.RegionWith
import Derived.Deep.MidRow
import Derived.Laws.AppendOwn
import Derived.WalkLawsBesides
import Derived.Deep.Cut
import Derived.Deep.CutRange
import Derived.Laws.AppendOwnNone
import Derived.Laws.Concat
import Derived.Lib.Strings
import Derived.Lib.Slices
import Derived.Lib.Walk
import Derived.Lib.Bytealg
import Derived.Deep.RegionHeld3
/- What memory holds, and what a call leaves as it was. -/
namespace Go.Proofs.YtfgapmfjfienhaaGreatDoor
open Go.ChangeShapes Go.WideShapes Go.ChangeAt Go.RowKit
set_option linter.unusedVariables false
set_option linter.unusedSimpArgs false
theorem drewN_heap (w : World) (n : Nat) : (w.drewN n).heap = w.heap := by induction n generalizing w <;> simp_all [World.drewN]
theorem drew2 (w : World) (a b : Nat) : (w.drewN a).drewN b = w.drewN (a + b) := by
  have e : ∀ (n : Nat) (w : World), w.drewN n = { w with drawn := w.drawn + n } := by
    intro n
    induction n with
    | zero => intro w; rfl
    | succ n ih => intro w; simp [World.drewN, World.drew, ih, Nat.add_assoc, Nat.add_comm 1 n]
  simp [e, Nat.add_assoc]
theorem heap_setCell {w : World} {b off : Nat} {v : Value} {cur : Array Value} {e : TypeId} {fr : Nat × Nat} (hg : w.heap[b]? = some (.cells cur e fr)) :
    (w.setCell ⟨b, off, none⟩ v).heap[b]? = some (.cells (cur.setIfInBounds off v) e fr) := by
  have hlt : b < w.heap.size := (Array.getElem?_eq_some_iff.1 hg).1
  simp [World.setCell, Array.getElem?_modify, hg]
theorem heap_setCell_other {w : World} {b off k : Nat} {v : Value} (hk : k ≠ b) : (w.setCell ⟨b, off, none⟩ v).heap[k]? = w.heap[k]? := by
  simp [World.setCell, Array.getElem?_modify, Ne.symm hk]
theorem size_setCell (w : World) (a : Addr) (v : Value) : (w.setCell a v).heap.size = w.heap.size := by simp [World.setCell]
theorem alloc_new (w : World) (ob : Obj) : (w.alloc ob).heap[w.heap.size]? = some ob := by show (w.heap.push ob)[w.heap.size]? = _; simp
theorem alloc_old (w : World) (ob : Obj) (k : Nat) (hk : k < w.heap.size) : (w.alloc ob).heap[k]? = w.heap[k]? := by
  show (w.heap.push ob)[k]? = _; rw [Array.getElem?_push_lt hk, Array.getElem?_eq_getElem hk]
theorem alloc_size (w : World) (ob : Obj) : (w.alloc ob).heap.size = w.heap.size + 1 := by show (w.heap.push ob).size = _; simp

/-- From w to w' no block that was there has turned but those of which 'S' speaks. -/
structure Fr (S : Nat → Prop) (w w' : World) : Prop where
  os : w'.os = w.os
  tape : w'.tape = w.tape
  output : w'.output = w.output
  size : w.heap.size ≤ w'.heap.size
  block : ∀ k, k < w.heap.size → ¬ S k → w'.heap[k]? = w.heap[k]?
section
variable {S S' : Nat → Prop} {w w1 w2 : World}
theorem Fr.refl (S : Nat → Prop) (w : World) : Fr S w w := ⟨rfl, rfl, rfl, Nat.le_refl _, fun _ _ _ => rfl⟩
theorem Fr.trans' (h : Fr S w w1) (h' : Fr S' w1 w2) (hs : ∀ k, k < w.heap.size → S' k → S k) : Fr S w w2 :=
  ⟨h'.os.trans h.os, h'.tape.trans h.tape, h'.output.trans h.output, Nat.le_trans h.size h'.size,
   fun k hk hn => (h'.block k (Nat.lt_of_lt_of_le hk h.size) (fun hq => hn (hs k hk hq))).trans (h.block k hk hn)⟩
theorem Fr.trans (h : Fr S w w1) (h' : Fr S w1 w2) : Fr S w w2 := h.trans' h' fun _ _ q => q
theorem Fr.mono (h : Fr S w w1) (hs : ∀ k, k < w.heap.size → S k → S' k) : Fr S' w w1 := ⟨h.os, h.tape, h.output, h.size, fun k hk hn => h.block k hk fun q => hn (hs k hk q)⟩
theorem Fr.drewN (S : Nat → Prop) (w : World) (n : Nat) : Fr S w (w.drewN n) := by
  refine ⟨?_, ?_, ?_, by rw [drewN_heap]; exact Nat.le_refl _, fun _ _ _ => by rw [drewN_heap]⟩
  all_goals (induction n generalizing w <;> simp_all [World.drewN])
theorem Fr.setCell {b off : Nat} {v : Value} (hS : S b) (w : World) : Fr S w (w.setCell ⟨b, off, none⟩ v) :=
  ⟨rfl, rfl, rfl, by rw [size_setCell]; exact Nat.le_refl _, fun k _ hn => heap_setCell_other fun e => hn (e ▸ hS)⟩
theorem Fr.alloc (S : Nat → Prop) (w : World) (ob : Obj) : Fr S w (w.alloc ob) := ⟨rfl, rfl, rfl, by rw [alloc_size]; omega, fun k hk _ => alloc_old w ob k hk⟩
theorem Fr.below {B : Nat} (h : Fr S w w1) (hB : B ≤ w.heap.size) (hS : ∀ k, k < B → ¬ S k) : Below B w w1 := ⟨h.os, h.tape, h.output, h.size, fun k hk => h.block k (by omega) (hS k hk)⟩
theorem Fr.of_below (h : Below w.heap.size w w1) : Fr S w w1 := ⟨h.os, h.tape, h.output, h.size, fun k hk _ => h.block k hk⟩
end
/-- This one block. -/
def On (b k : Nat) : Prop := k = b
theorem fr_set (b off : Nat) (v : Value) (w : World) : Fr (On b) w (w.setCell ⟨b, off, none⟩ v) := Fr.setCell (S := On b) rfl w
/-- Nothing that was there has turned. -/
abbrev Kp (w w' : World) : Prop := Below w.heap.size w w'
theorem kp_drewN (w : World) (q : Nat) : Kp w (w.drewN q) := (Fr.drewN (fun _ => False) w q).below (Nat.le_refl _) fun _ _ h => h
theorem kp_alloc (w : World) (ob : Obj) : Kp w (w.alloc ob) := (Below.refl _ w).alloc (Nat.le_refl _) ob
theorem kp_trans {a b c : World} (h : Kp a b) (k : Kp b c) : Kp a c := h.trans (k.mono h.size)

theorem Fr.new {S : Nat → Prop} {w w1 : World} {n off : Nat} {v : Value} (h : Fr S w w1) (hn : w.heap.size ≤ n) : Fr S w (w1.setCell ⟨n, off, none⟩ v) :=
  ⟨h.os, h.tape, h.output, by rw [size_setCell]; exact h.size, fun k hk hS => by rw [heap_setCell_other (by omega)]; exact h.block k hk hS⟩
theorem Fr.frAlloc {S : Nat → Prop} {w w1 : World} {ob : Obj} (h : Fr S (w.alloc ob) w1) : Fr S w w1 := (Fr.alloc S w ob).trans h
/-- A byte of a text, nought behind its end. -/
def byteAt (s : ByteArray) (k : Nat) : Nat := ((s.data.toList[k]?).map UInt8.toNat).getD 0
theorem byteAt_lt (s : ByteArray) (k : Nat) : byteAt s k < 256 := by
  unfold byteAt
  cases s.data.toList[k]? with
  | none => simp
  | some b => simpa using b.toNat_lt
theorem byteAt_eq (s : ByteArray) (k : Nat) (h : k < s.size) : byteAt s k = (s[k]).toNat := by
  have : s.data.toList[k]? = some (s[k]) := by
    rw [List.getElem?_eq_getElem (by simpa using h)]; rfl
  unfold byteAt; rw [this]; rfl

theorem cell_at {w : World} {b : Nat} {e : TypeId} {cur : Array Value} {fr : Nat × Nat} (hg : w.heap[b]? = some (.cells cur e fr)) (j : Nat) : w.cell? ⟨b, j, none⟩ = cur[j]? := by simp [World.cell?, hg]
theorem kp_cell {w w1 : World} (k : Kp w w1) {a : Addr} {u : Value} (h : w.cell? a = some u) : w1.cell? a = some u := by
  rw [World.cell?_of_block (k.block _ ?_)]
  · exact h
  · rcases Nat.lt_or_ge a.block w.heap.size with q | q
    · exact q
    · simp [World.cell?, Array.getElem?_eq_none q] at h
theorem addr_add (g j : Nat) : (⟨g, 0, none⟩ : Addr).add j = ⟨g, j, none⟩ := by unfold Addr.add; split <;> simp_all
theorem kp_drew_size (w : World) : w.drew.heap.size = w.heap.size := rfl
theorem kp_drew (w : World) : Kp w w.drew := kp_drewN w 1
section
variable {w w1 : World} {B : Nat} {v : Value}
theorem row_kp {e : TypeId} {size n : Nat} {xs : List Value} (hr : w.ownsRow B e size v n xs) (h : Kp w w1) : w1.ownsRow B e size v n xs := by
  refine ⟨hr.1, ?_⟩
  rcases hr.2 with q | ⟨b, cap, cur, rfl, hb, hg, rest⟩
  · exact .inl q
  · exact .inr ⟨b, cap, cur, rfl, hb, by rw [h.block b (hr.lt b rfl).2]; exact hg, rest⟩
theorem row_fr {e : TypeId} {size n : Nat} {xs : List Value} {S : Nat → Prop} (hr : w.ownsRow B e size v n xs) (h : Fr S w w1) (hn : ∀ j, v.ownBlock = some j → ¬ S j) : w1.ownsRow B e size v n xs := by
  refine ⟨hr.1, ?_⟩
  rcases hr.2 with q | ⟨b, cap, cur, rfl, hb, hg, rest⟩
  · exact .inl q
  · exact .inr ⟨b, cap, cur, rfl, hb, by rw [h.block b (hr.lt b rfl).2 (hn b rfl)]; exact hg, rest⟩
theorem row_lift {e : TypeId} {B' size n : Nat} {xs : List Value} (hr : w.ownsRow B e size v n xs) (h : ∀ j, v.ownBlock = some j → B' ≤ j) : w.ownsRow B' e size v n xs := by
  refine ⟨hr.1, ?_⟩
  rcases hr.2 with q | ⟨b, cap, cur, rfl, hb, hg, rest⟩
  · exact .inl q
  · exact .inr ⟨b, cap, cur, rfl, h b rfl, hg, rest⟩
theorem owns_form {size n : Nat} {e : TypeId} {xs : List Value} (h : w.ownsRow B e size v n xs) : ∃ a cap, v = .slice a n cap ∧ n ≤ cap ∧ cap ≤ maxLen := by
  rcases h.2 with ⟨rfl, rfl⟩ | ⟨b, cap, cur, rfl, _, _, h1, h2, _⟩
  · exact ⟨none, 0, rfl, Nat.le_refl _, by simp [maxLen]⟩
  · exact ⟨_, cap, rfl, h1, h2⟩
end
theorem info_parts {t : TypeId} {z : Option Value} {a b : Nat} (h : (Tryz.prog.info? t).map (fun i => (i.zero, i.size, i.bytes)) = some (z, a, b)) : ∃ i, Tryz.prog.info? t = some i ∧ i.zero = z ∧ i.size = a ∧ i.bytes = b := by
  obtain ⟨i, h1, h2⟩ := Option.map_eq_some_iff.1 h
  simp only [Prod.mk.injEq] at h2
  exact ⟨i, h1, h2.1, h2.2.1, h2.2.2⟩
theorem infoUB : (Tryz.prog.info? 5).map (fun i => (i.zero, i.size, i.bytes)) = some (some (.int .u8 0), 1, 1) := by kernel_rfl
def Lc (T : TypeId) (b : Nat) (l : List Value) (w : World) : Prop := w.heap[b]? = some (.cells l.toArray T (0, 0))
section
variable {T : TypeId} {b : Nat} {l : List Value} {w w1 : World}
theorem Lc.lt (h : Lc T b l w) : b < w.heap.size := (Array.getElem?_eq_some_iff.1 h).1
theorem Lc.cell (h : Lc T b l w) (j : Nat) : w.cell? ⟨b, j, none⟩ = l[j]? := by rw [cell_at h]; exact List.getElem?_toArray
theorem Lc.at (h : Lc T b l w) {j : Nat} {v : Value} (hj : l[j]? = some v) : w.cell? ⟨b, j, none⟩ = some v := by rw [h.cell, hj]
theorem Lc.fz (h : Lc T b l w) (j : Nat) : w.frozen? ⟨b, j, none⟩ = false := by unfold Lc at h; simp [World.frozen?, h]
theorem Lc.new (w : World) (l : List Value) (T : TypeId) : Lc T w.heap.size l (w.alloc (.cells l.toArray T)) := alloc_new w _
theorem Lc.heap (h : Lc T b l w) (he : w1.heap[b]? = w.heap[b]?) : Lc T b l w1 := by unfold Lc at h ⊢; rw [he]; exact h
theorem Lc.kp (h : Lc T b l w) (k : Kp w w1) : Lc T b l w1 := h.heap (k.block b h.lt)
theorem Lc.fr {S : Nat → Prop} (h : Lc T b l w) (k : Fr S w w1) (hn : ¬ S b) : Lc T b l w1 := h.heap (k.block b h.lt hn)
theorem Lc.set (h : Lc T b l w) (j : Nat) (v : Value) : Lc T b (l.set j v) (w.setCell ⟨b, j, none⟩ v) := by
  unfold Lc at h ⊢; rw [heap_setCell h, List.setIfInBounds_toArray]
theorem Lc.other (h : Lc T b l w) {n off : Nat} {v : Value} (hn : n ≠ b) : Lc T b l (w.setCell ⟨n, off, none⟩ v) := h.heap (heap_setCell_other (Ne.symm hn))
theorem kp_new {w0 : World} (k : Kp w0 w) {n off : Nat} {v : Value} (hn : w0.heap.size ≤ n) : Kp w0 (w.setCell ⟨n, off, none⟩ v) :=
  ⟨k.os, k.tape, k.output, by rw [size_setCell]; exact k.size, fun j hj => by rw [heap_setCell_other (by omega)]; exact k.block j hj⟩
theorem kp_more {w0 : World} (k : Kp w0 w) (o : Obj) : Kp w0 (w.alloc o) := kp_trans k (kp_alloc _ _)
end
/-- A list's elements from a place on are these. -/
def sets (l : List Value) : Nat → List Value → List Value
  | _, [] => l
  | o, v :: r => sets (l.set o v) (o + 1) r
section
variable {T : TypeId} {b : Nat} {l : List Value} {w w1 : World}
theorem Lc.sets : ∀ {l : List Value} {w : World} (vs : List Value) (o : Nat), Lc T b l w → Lc T b (sets l o vs) (w.setCells b o vs)
  | l, w, [], o, h => h
  | l, w, v :: r, o, h => Lc.sets r (o + 1) (h.set o v)
theorem fr_sets (b : Nat) : ∀ (vs : List Value) (o : Nat) (w : World), Fr (On b) w (w.setCells b o vs)
  | [], o, w => Fr.refl _ _
  | v :: r, o, w => (fr_set b o v w).trans (fr_sets b r (o + 1) _)
theorem size_sets (b : Nat) : ∀ (vs : List Value) (o : Nat) (w : World), (w.setCells b o vs).heap.size = w.heap.size
  | [], o, w => rfl
  | v :: r, o, w => (size_sets b r (o + 1) _).trans (size_setCell _ _ _)
theorem Lc.range (h : Lc T b l w) (o : Nat) {cs : List Value} (hc : ∀ j v, cs[j]? = some v → l[o + j]? = some v) : w.rangeAt b o cs := fun j v hj => h.at (hc j v hj)
theorem Lc.there (h : Lc T b l w) {o n : Nat} (hn : o + n ≤ l.length) : w.there b o n := fun j hj => ⟨by rw [h.cell, List.getElem?_eq_getElem (by omega)]; rfl, h.fz _⟩
variable {ops : Array Oper} {rest : List Oper} {op : Oper} {a : Act} {Q : Exit → Act → World → Prop}
theorem wpList_load_box (h : Lc T b l w) (o : Nat) (cs : List Value) (hgd : op.guard = none) (ty : TypeId) (x : Operand) (ho : op.op = .load ty x) (hx : a.eval x = .pointer (some ⟨b, o, none⟩)) (hc : (l.drop o).take cs.length = cs)
    (d : TypeDesc) (hu : Tryz.prog.underlying ty = some d) (hd : d.isRow = true) (hi : (Tryz.prog.info? ty).map (·.size) = some cs.length)
    (k : wpList Tryz.prog ops Q rest (a.put op.dst (.agg cs.toArray)) w) : wpList Tryz.prog ops Q (op :: rest) a w := by
  refine wpList_load_mid hgd ty x ho b o hx cs d (h.range o fun j v hj => ?_) hu hd hi k
  have hl := (List.getElem?_eq_some_iff.1 hj).1
  rw [← hc, List.getElem?_take_of_lt hl, List.getElem?_drop] at hj
  exact hj
theorem wpList_store_box (h : Lc T b l w) (o : Nat) (cs : List Value) (hgd : op.guard = none) (ty : TypeId) (x y : Operand) (ho : op.op = .store ty x y) (hx : a.eval x = .pointer (some ⟨b, o, none⟩)) (hy : a.eval y = .agg cs.toArray)
    (hf : o + cs.length ≤ l.length) (hi : (Tryz.prog.info? ty).map (·.size) = some cs.length) (h1 : ∀ v ∈ cs, v.oneCell' = true) {l' : List Value} (hl : Go.Proofs.YtfgapmfjfienhaaGreatDoor.sets l o cs = l')
    (k : ∀ w', Lc T b l' w' → Fr (On b) w w' → w'.heap.size = w.heap.size → wpList Tryz.prog ops Q rest (a.put op.dst undef) w') : wpList Tryz.prog ops Q (op :: rest) a w := by
  refine wpList_store_mid hgd ty x y ho b o cs.toArray hx hy ?_ (by simpa using hi) (all_oneCell_toArray h1) ?_
  · have : cs.toArray.size = cs.length := by simp
    rw [this]; exact h.there hf
  · have e : cs.toArray.toList = cs := by simp
    rw [e]
    exact k _ (hl ▸ h.sets cs o) (fr_sets _ _ _ _) (size_sets _ _ _ _)
theorem results_box1 {fn : Func} {t : Tmp} {ty : TypeId} (hr : fn.results = #[.cell t ty]) {tmps : Array Value} (hp : tmps.getD t undef = .pointer (some ⟨b, 0, none⟩)) (h : Lc T b l w)
    {d : TypeDesc} (hu : Tryz.prog.underlying ty = some d) (hd : d.isRow = true) (hi : (Tryz.prog.info? ty).map (·.size) = some l.length) :
    (results fn tmps).run Tryz.prog w = .ok (.agg l.toArray) w := by
  have := run_loadVar_mid (P := Tryz.prog) w b 0 ty l d (h.range 0 fun j v hj => by rw [Nat.zero_add]; exact hj) hu hd hi
  rw [Array.getD_eq_getD_getElem?] at hp
  simp [results, hr, hp, asAddr, this]
theorem results_box2 {fn : Func} {t u : Tmp} {ty : TypeId} (hr : fn.results = #[.cell t ty, .tmp u]) {tmps : Array Value} (hp : tmps.getD t undef = .pointer (some ⟨b, 0, none⟩)) (h : Lc T b l w)
    {d : TypeDesc} (hu : Tryz.prog.underlying ty = some d) (hd : d.isRow = true) (hi : (Tryz.prog.info? ty).map (·.size) = some l.length) :
    (results fn tmps).run Tryz.prog w = .ok (.tuple #[.agg l.toArray, tmps.getD u undef]) w := by
  have := run_loadVar_mid (P := Tryz.prog) w b 0 ty l d (h.range 0 fun j v hj => by rw [Nat.zero_add]; exact hj) hu hd hi
  rw [Array.getD_eq_getD_getElem?] at hp
  simp [results, hr, hp, asAddr, this]
theorem results_box3 {fn : Func} {t u v : Tmp} {ty : TypeId} (hr : fn.results = #[.cell t ty, .tmp u, .tmp v]) {tmps : Array Value} (hp : tmps.getD t undef = .pointer (some ⟨b, 0, none⟩)) (h : Lc T b l w)
    {d : TypeDesc} (hu : Tryz.prog.underlying ty = some d) (hd : d.isRow = true) (hi : (Tryz.prog.info? ty).map (·.size) = some l.length) :
    (results fn tmps).run Tryz.prog w = .ok (.tuple #[.agg l.toArray, tmps.getD u undef, tmps.getD v undef]) w := by
  have := run_loadVar_mid (P := Tryz.prog) w b 0 ty l d (h.range 0 fun j v hj => by rw [Nat.zero_add]; exact hj) hu hd hi
  rw [Array.getD_eq_getD_getElem?] at hp
  simp [results, hr, hp, asAddr, this]
end
section
variable {w w1 : World} {u u' : Value} {T T' : TypeId} {m m' : Nat} {l l' : List Value}
theorem row_ne {B n size : Nat} {e : TypeId} {xs : List Value} (hr : w.ownsRow B e size u n xs) (hm : Lc T m l w) (hT : T ≠ e) : u.ownBlock ≠ some m := by
  intro q
  rcases hr.2 with ⟨z, _⟩ | ⟨b, cap, cur, z, hb, hg, _⟩
  · rw [z] at q; cases q
  · rw [z] at q
    simp only [Value.ownBlock, Option.some.injEq] at q
    subst q
    unfold Lc at hm
    rw [hm] at hg
    injection hg with hg
    injection hg with _ hg
    exact hT hg
theorem row_row {B n size B' n' size' : Nat} {e e' : TypeId} {xs xs' : List Value} (hr : w.ownsRow B e size u n xs) (hr' : w.ownsRow B' e' size' u' n' xs') (hT : e ≠ e') : ∀ j, u.ownBlock = some j → u'.ownBlock ≠ some j := by
  intro j q q'
  rcases hr.2 with ⟨z, _⟩ | ⟨b, cap, cur, z, hb, hg, _⟩
  · rw [z] at q; cases q
  rcases hr'.2 with ⟨z', _⟩ | ⟨b', cap', cur', z', hb', hg', _⟩
  · rw [z'] at q'; cases q'
  rw [z] at q
  rw [z'] at q'
  simp only [Value.ownBlock, Option.some.injEq] at q q'
  subst q
  subst q'
  rw [hg] at hg'
  injection hg' with hg'
  injection hg' with _ hg'
  exact hT hg'
theorem lc_ne (h : Lc T m l w) (h' : Lc T' m' l' w) (hT : T ≠ T') : m ≠ m' := by
  rintro rfl
  unfold Lc at h h'
  rw [h] at h'
  injection h' with h'
  injection h' with _ h'
  exact hT h'
end
/-- Bytes as they lie in memory. -/
def bcs (l : List UInt8) : List Value := l.map fun b => Value.int .u8 b.toNat
theorem bcs_len (l : List UInt8) : (bcs l).length = l.length := by simp [bcs]
theorem bcs_append (a b : List UInt8) : bcs (a ++ b) = bcs a ++ bcs b := by simp [bcs]
theorem bcs_one (l : List UInt8) : ∀ u ∈ bcs l, u.oneCell' = true := fun u hu => by
  obtain ⟨b, _, rfl⟩ := List.mem_map.1 hu
  rfl
theorem drop_at {S : ByteArray} {i : Nat} (h : i < S.size) : S.data.toList.drop i = S[i] :: S.data.toList.drop (i + 1) := by
  rw [List.drop_eq_getElem_cons (by simpa using h)]
  rfl
end Go.Proofs.YtfgapmfjfienhaaGreatDoor
/- Lines in memory; slices.Clone of lines. -/
namespace Go.Proofs.YtfgapmfjfienhaaGreatDoor
open Go.ChangeShapes Go.WideShapes Go.ChangeAt Go.RowKit Go.Maps Go.MapKept
set_option linter.unusedVariables false
set_option linter.unusedSimpArgs false
set_option maxRecDepth 100000
/-- Lines as they lie in memory. -/
def strs (ls : List ByteArray) : List Value := ls.map Value.string
theorem strs_len (ls : List ByteArray) : (strs ls).length = ls.length := by simp [strs]
theorem strs_app (a b : List ByteArray) : strs (a ++ b) = strs a ++ strs b := by simp [strs]
theorem strs_one (ls : List ByteArray) : ∀ u ∈ strs ls, u.oneCell' = true := fun u hu => by
  obtain ⟨b, _, rfl⟩ := List.mem_map.1 hu
  rfl
theorem strs_at {ls : List ByteArray} {j : Nat} {u : Value} (h : (strs ls)[j]? = some u) : ∃ s, ls[j]? = some s ∧ u = .string s := by
  unfold strs at h
  rw [List.getElem?_map] at h
  obtain ⟨x, h1, h2⟩ := Option.map_eq_some_iff.1 h
  exact ⟨x, h1, h2.symm⟩
theorem add2 (g o j : Nat) : (⟨g, o, none⟩ : Addr).add j = ⟨g, o + j, none⟩ := by unfold Addr.add; split <;> simp_all
theorem infoStr : (Tryz.prog.info? 9).map (fun i => (i.zero, i.size, i.bytes)) = some (some (.string ⟨#[]⟩), 1, 16) := by kernel_rfl
/-- Lines that can be read; where they lie P holds. -/
def Sl (P : Nat → Prop) (v : Value) (ls : List ByteArray) (w : World) : Prop :=
  ∃ a cap, v = .slice a ls.length cap ∧ ls.length ≤ cap ∧ cap ≤ maxLen ∧ (a = none → cap = 0) ∧ ∀ i s, ls[i]? = some s → ∃ g o, a = some ⟨g, o, none⟩ ∧ P g ∧ w.cell? ⟨g, o + i, none⟩ = some (.string s)
section
variable {P Q S : Nat → Prop} {v : Value} {ls : List ByteArray} {w w1 : World}
theorem Sl.mono (h : Sl P v ls w) (hq : ∀ k, k < w.heap.size → P k → Q k) : Sl Q v ls w := by
  obtain ⟨a, cap, rfl, h1, h2, h3, h4⟩ := h
  refine ⟨a, cap, rfl, h1, h2, h3, fun i s hi => ?_⟩
  obtain ⟨g, o, e, q, c⟩ := h4 i s hi
  exact ⟨g, o, e, hq g (World.block_lt_of_cell? _ _ c) q, c⟩
theorem Sl.fr (h : Sl P v ls w) (k : Fr S w w1) (hn : ∀ g, P g → ¬ S g) : Sl P v ls w1 := by
  obtain ⟨a, cap, rfl, h1, h2, h3, h4⟩ := h
  refine ⟨a, cap, rfl, h1, h2, h3, fun i s hi => ?_⟩
  obtain ⟨g, o, e, q, c⟩ := h4 i s hi
  refine ⟨g, o, e, q, ?_⟩
  rw [World.cell?_of_block (k.block g (World.block_lt_of_cell? _ _ c) (hn g q))]
  exact c
theorem Sl.kp (h : Sl P v ls w) (k : Kp w w1) : Sl P v ls w1 := by
  obtain ⟨a, cap, rfl, h1, h2, h3, h4⟩ := h
  refine ⟨a, cap, rfl, h1, h2, h3, fun i s hi => ?_⟩
  obtain ⟨g, o, e, q, c⟩ := h4 i s hi
  exact ⟨g, o, e, q, kp_cell k c⟩
theorem Sl.form (h : Sl P v ls w) : ∃ a cap, v = .slice a ls.length cap ∧ ls.length ≤ cap ∧ cap ≤ maxLen ∧ (a = none → cap = 0) := by
  obtain ⟨a, cap, rfl, h1, h2, h3, h4⟩ := h
  exact ⟨a, cap, rfl, h1, h2, h3⟩
theorem Sl.nil (P : Nat → Prop) (w : World) : Sl P (.slice none 0 0) [] w := ⟨none, 0, rfl, Nat.le_refl _, by simp [maxLen], (fun _ => rfl), fun i s hi => by cases hi⟩
theorem Sl.of_row {B : Nat} (h : w.ownsRow B 9 1 v ls.length (strs ls)) : Sl (fun k => B ≤ k) v ls w := by
  rcases h.2 with ⟨rfl, h0⟩ | ⟨g, cap, cur, rfl, hb, hg, h1, h2, h3, h4⟩
  · obtain rfl : ls = [] := List.eq_nil_of_length_eq_zero h0
    exact Sl.nil _ _
  · refine ⟨_, cap, rfl, h1, h2, (fun e => by cases e), fun i s hi => ⟨g, 0, rfl, hb, ?_⟩⟩
    have hl := (List.getElem?_eq_some_iff.1 hi).1
    rw [cell_at hg, Nat.zero_add, ← Array.getElem?_toList]
    have q : (strs ls)[i]? = some (.string s) := by unfold strs; rw [List.getElem?_map, hi]; rfl
    rw [← h4, List.getElem?_take, if_pos (by omega)] at q
    exact q
/-- A slice of lines as the source of an append. -/
theorem Sl.src {a : Option Addr} {n c : Nat} (h : Sl P (.slice a n c) ls w) : n = ls.length ∧ (a = none → n = 0 ∧ c = 0) ∧ ∀ ad, a = some ad → ∀ j u, (strs ls)[j]? = some u → w.cell? (ad.add j) = some u := by
  obtain ⟨a', cap, e, h1, h2, h3, h4⟩ := h
  cases e
  refine ⟨rfl, fun q => ⟨by have := h3 q; omega, h3 q⟩, fun ad q j u hj => ?_⟩
  obtain ⟨s, hs, rfl⟩ := strs_at hj
  obtain ⟨g, o, e, _, c⟩ := h4 j s hs
  rw [e, Option.some.injEq] at q
  rw [← q, add2]; exact c
theorem Sl.at_ {a : Option Addr} {n c : Nat} (h : Sl P (.slice a n c) ls w) {i : Nat} {s : ByteArray} (hi : ls[i]? = some s) : ∃ g o, a = some ⟨g, o, none⟩ ∧ P g ∧ w.cell? ⟨g, o + i, none⟩ = some (.string s) := by
  obtain ⟨a', cap, e, h1, h2, h3, h4⟩ := h
  cases e
  exact h4 i s hi
end
/-- Lines of the call's own. -/
def Row (B : Nat) (v : Value) (ls : List ByteArray) (w : World) : Prop := w.ownsRow B 9 1 v ls.length (strs ls)
theorem Row.form {B : Nat} {v : Value} {ls : List ByteArray} {w : World} (h : Row B v ls w) : ∃ a cap, v = .slice a ls.length cap ∧ ls.length ≤ cap ∧ cap ≤ maxLen := owns_form h
/-- Lines are laid behind those that a row has. -/
theorem wpl_str {P : Nat → Prop} {w : World} {ops : Array Oper} {rest : List Oper} {o : Oper} {ac : Act} {Q : Exit → Act → World → Prop} (hgd : o.guard = none) (s x : Operand) (ho : o.op = .call { callee := .builtin .append, args := #[s, x], argTypes := #[33, 33] })
    {B K : Nat} {v : Value} {ls ms : List ByteArray} (hs : ac.eval s = v) (hr : Row B v ls w) {sa : Option Addr} {m c : Nat} (hx : ac.eval x = .slice sa m c) (hm : Sl P (.slice sa m c) ms w)
    (hK : ls.length + ms.length = K) (hl : K ≤ 8796093022208) (hB : B ≤ w.heap.size)
    (k : ∀ a' c' w', K ≤ c' → c' ≤ 9223372036854775807 → Row B (.slice a' K c') (ls ++ ms) w' → w.grownBy w' v.ownBlock → wpList Tryz.prog ops Q rest (ac.put o.dst (.slice a' K c')) w') : wpList Tryz.prog ops Q (o :: rest) ac w := by
  obtain ⟨i9, hi9, z0, z1, z2⟩ := info_parts infoStr
  obtain ⟨rfl, hn, hc⟩ := hm.src
  subst hK
  have hm9 : ls.length + ms.length ≤ maxLen := by unfold maxLen; omega
  cases sa with
  | some ad =>
    refine wpList_append_own w hgd s x 33 ho B 9 i9 _ 1 16 Tryz.underlying33 hi9 z0 z1 z2 rfl (by decide) v ls.length (strs ls) hs hr ad ms.length c (strs ms) hx (by rw [strs_len]; omega) (hc ad rfl) (strs_one ms) hm9 (by omega) hB ?_
    intro v' w' q1 q2 _
    obtain ⟨a', c', rfl, q3, q4⟩ := owns_form q1
    exact k a' c' w' q3 q4 (by unfold Row; rw [strs_app, List.length_append]; exact q1) q2
  | none =>
    obtain ⟨h0, rfl⟩ := hn rfl
    obtain rfl : ms = [] := List.eq_nil_of_length_eq_zero h0
    refine wpList_append_own_none hgd s x 33 ho B 9 i9 1 Tryz.underlying33 hi9 v ls.length (strs ls) hs hr (by rw [hx]; rfl) ?_
    obtain ⟨a', c', rfl, q3, q4⟩ := owns_form hr
    exact k a' c' w q3 q4 (by simpa using hr) (World.grownBy.refl _ _)
theorem below_grown {w w' : World} {B n : Nat} {v : Value} {xs : List Value} {e : TypeId} {size : Nat} (hr : w.ownsRow B e size v n xs) (hB : B ≤ w.heap.size) (hg : w.grownBy w' v.ownBlock) : Below B w w' :=
  ⟨hg.os, hg.tape, hg.output, hg.size, fun k hk => hg.block k (by omega) fun e => by have := (hr.lt k e.symm).1; omega⟩
theorem row_made (w : World) : Row w.heap.size (.slice (some ⟨w.heap.size, 0, none⟩) 0 0) [] (w.alloc (.cells #[] 9)) :=
  ⟨rfl, .inr ⟨w.heap.size, 0, #[], rfl, Nat.le_refl _, alloc_new _ _, Nat.le_refl _, by simp [maxLen], rfl, rfl⟩⟩
theorem eql_sl (ad : Addr) (n c : Nat) (w : World) : Sem.run Tryz.prog (binOp BinOp.eql 33 (.slice (some ad) n c) (.slice none 0 0)) w = .ok (.bool false) w := by kernel_rfl
end Go.Proofs.YtfgapmfjfienhaaGreatDoor
/- Each test of a byte in package kind, and each one of the document's answer, returns just what a plain function of the byte says, and leaves the world as it was; for every byte. -/
namespace Go.Proofs.YtfgapmfjfienhaaGreatDoor
open Go.ChangeShapes Go.WideShapes Go.ChangeAt Go.RowKit

def bt (c a b : Int) : Bool := decide (a ≤ c ∧ c ≤ b)
def digB (c : Int) : Bool := bt c 48 57
def octB (c : Int) : Bool := bt c 48 55
def smlB (c : Int) : Bool := bt c 97 122
def grtB (c : Int) : Bool := bt c 65 90
def letB (c : Int) : Bool := smlB c || grtB c
def ladB (c : Int) : Bool := letB c || digB c
def hedB (c : Int) : Bool := letB c || c == 95
def wrdB (c : Int) : Bool := hedB c || digB c
def blkB (c : Int) : Bool := c == 32 || c == 9
def spcB (c : Int) : Bool := c == 32 || bt c 9 13
def hexB (c : Int) : Bool := digB c || bt c 97 102 || bt c 65 70
def ctlB (c : Int) : Bool := decide (c < 32) || c == 127
def pctB (c : Int) : Bool := bt c 33 47 || bt c 58 64 || bt c 91 96 || bt c 123 126

theorem bt_yes {c a b : Int} (h1 : a ≤ c) (h2 : c ≤ b) : bt c a b = true := by simp [bt, h1, h2]
theorem bt_no1 {c a b : Int} (h1 : ¬ a ≤ c) : bt c a b = false := by simp [bt, h1]
theorem bt_no2 {c a b : Int} (h2 : ¬ c ≤ b) : bt c a b = false := by simp [bt, h2]

theorem between_any (c a b : Int) (w : World) :
    Calls Tryz.prog 139 #[.int .u8 c, .int .u8 a, .int .u8 b] w fun e w' => e = .returned (.bool (bt c a b)) ∧ w' = w := by
  by_cases h1 : a ≤ c
  · by_cases h2 : c ≤ b
    · rw [bt_yes h1 h2]
      go_enter Tryz.func139, Tryz.ntmps139
      go_wp2
      go_ret
      exact ⟨rfl, rfl⟩
    · rw [bt_no2 h2]
      go_enter Tryz.func139, Tryz.ntmps139
      go_wp2
      go_ret
      exact ⟨rfl, rfl⟩
  · rw [bt_no1 h1]
    go_enter Tryz.func139, Tryz.ntmps139
    go_wp2
    go_ret
    exact ⟨rfl, rfl⟩

theorem isDigit_any (c : Int) (w : World) :
    Calls Tryz.prog 112 #[.int .u8 c] w fun e w' => e = .returned (.bool (digB c)) ∧ w' = w := by
  unfold digB
  go_enter Tryz.func112, Tryz.ntmps112
  go_wp2_with (go_at_call 139; refine (between_any _ _ _ _).mono ?_; rintro e w' ⟨rfl, rfl⟩)
  go_ret
  exact ⟨rfl, rfl⟩

theorem isOctal_any (c : Int) (w : World) :
    Calls Tryz.prog 114 #[.int .u8 c] w fun e w' => e = .returned (.bool (octB c)) ∧ w' = w := by
  unfold octB
  go_enter Tryz.func114, Tryz.ntmps114
  go_wp2_with (go_at_call 139; refine (between_any _ _ _ _).mono ?_; rintro e w' ⟨rfl, rfl⟩)
  go_ret
  exact ⟨rfl, rfl⟩

theorem isSmall_any (c : Int) (w : World) :
    Calls Tryz.prog 118 #[.int .u8 c] w fun e w' => e = .returned (.bool (smlB c)) ∧ w' = w := by
  unfold smlB
  go_enter Tryz.func118, Tryz.ntmps118
  go_wp2_with (go_at_call 139; refine (between_any _ _ _ _).mono ?_; rintro e w' ⟨rfl, rfl⟩)
  go_ret
  exact ⟨rfl, rfl⟩

theorem isGreat_any (c : Int) (w : World) :
    Calls Tryz.prog 111 #[.int .u8 c] w fun e w' => e = .returned (.bool (grtB c)) ∧ w' = w := by
  unfold grtB
  go_enter Tryz.func111, Tryz.ntmps111
  go_wp2_with (go_at_call 139; refine (between_any _ _ _ _).mono ?_; rintro e w' ⟨rfl, rfl⟩)
  go_ret
  exact ⟨rfl, rfl⟩

theorem isLetter_any (c : Int) (w : World) :
    Calls Tryz.prog 117 #[.int .u8 c] w fun e w' => e = .returned (.bool (letB c)) ∧ w' = w := by
  unfold letB
  cases h : smlB c
  all_goals
    go_enter Tryz.func117, Tryz.ntmps117
    go_wp2_with (first | (go_at_call 118; refine (isSmall_any _ _).mono ?_; rintro e w' ⟨rfl, rfl⟩) | (go_at_call 111; refine (isGreat_any _ _).mono ?_; rintro e w' ⟨rfl, rfl⟩))
    go_ret
    exact ⟨rfl, rfl⟩


theorem isHead_any (c : Int) (w : World) :
    Calls Tryz.prog 116 #[.int .u8 c] w fun e w' => e = .returned (.bool (hedB c)) ∧ w' = w := by
  unfold hedB
  cases h : letB c
  all_goals
    go_enter Tryz.func116, Tryz.ntmps116
    go_wp2_with (go_at_call 117; refine (isLetter_any _ _).mono ?_; rintro e w' ⟨rfl, rfl⟩)
    go_ret
    exact ⟨rfl, rfl⟩

theorem isWord_any (c : Int) (w : World) :
    Calls Tryz.prog 115 #[.int .u8 c] w fun e w' => e = .returned (.bool (wrdB c)) ∧ w' = w := by
  unfold wrdB
  cases h : hedB c
  all_goals
    go_enter Tryz.func115, Tryz.ntmps115
    go_wp2_with (first | (go_at_call 116; refine (isHead_any _ _).mono ?_; rintro e w' ⟨rfl, rfl⟩) | (go_at_call 112; refine (isDigit_any _ _).mono ?_; rintro e w' ⟨rfl, rfl⟩))
    go_ret
    exact ⟨rfl, rfl⟩

theorem isBlank_any (c : Int) (w : World) :
    Calls Tryz.prog 119 #[.int .u8 c] w fun e w' => e = .returned (.bool (blkB c)) ∧ w' = w := by
  unfold blkB
  cases h : (c == 32)
  all_goals
    go_enter Tryz.func119, Tryz.ntmps119
    go_wp2
    go_ret
    exact ⟨rfl, rfl⟩


theorem isHex_any (c : Int) (w : World) :
    Calls Tryz.prog 113 #[.int .u8 c] w fun e w' => e = .returned (.bool (hexB c)) ∧ w' = w := by
  unfold hexB
  cases h1 : digB c <;> cases h2 : bt c 97 102
  all_goals
    go_enter Tryz.func113, Tryz.ntmps113
    go_wp2_with (first | (go_at_call 112; refine (isDigit_any _ _).mono ?_; rintro e w' ⟨rfl, rfl⟩) | (go_at_call 139; refine (between_any _ _ _ _).mono ?_; rintro e w' ⟨rfl, rfl⟩))
    go_ret
    exact ⟨rfl, rfl⟩

end Go.Proofs.YtfgapmfjfienhaaGreatDoor
/- The document's answer for one byte (its classes, its letters) returns just what plain functions of the byte say, and leaves the world as it was. -/
namespace Go.Proofs.YtfgapmfjfienhaaGreatDoor
open Go.ChangeShapes Go.WideShapes Go.ChangeAt Go.RowKit

def smI (c : Int) : Int := if grtB c then c + 32 else c
def grI (c : Int) : Int := if smlB c then c - 32 else c
def knB (k : Int) : Bool := k == 100 || k == 120 || k == 111 || k == 119 || k == 104 || k == 97 || k == 108 || k == 117 || k == 115
def clsB (k c : Int) : Bool :=
  if k = 100 then digB c else if k = 120 then hexB c else if k = 111 then octB c else if k = 119 then wrdB c else if k = 104 then hedB c
  else if k = 97 then letB c else if k = 108 then smlB c else if k = 117 then grtB c else if k = 115 then blkB c else false
def isB (k c : Int) : Bool := knB (smI k) && (clsB (smI k) c != grtB k)

theorem ret_u8 {a b : Int} (h : a = b) : Ending.returned (.int .u8 a) = .returned (.int .u8 b) := by rw [h]
theorem grtB_iff {c : Int} : grtB c = true ↔ 65 ≤ c ∧ c ≤ 90 := by simp [grtB, bt]
theorem smlB_iff {c : Int} : smlB c = true ↔ 97 ≤ c ∧ c ≤ 122 := by simp [smlB, bt]
theorem knB_no {k : Int} (h : knB k = false) : (k == 100) = false ∧ (k == 120) = false ∧ (k == 111) = false ∧ (k == 119) = false ∧ (k == 104) = false ∧ (k == 97) = false ∧ (k == 108) = false ∧ (k == 117) = false ∧ (k == 115) = false := by
  simpa [knB, and_assoc] using h
theorem knB_yes {k : Int} (h : knB k = true) : k = 100 ∨ k = 120 ∨ k = 111 ∨ k = 119 ∨ k = 104 ∨ k = 97 ∨ k = 108 ∨ k = 117 ∨ k = 115 := by
  simpa [knB, or_assoc] using h
theorem clsB_no {k : Int} (c : Int) (h : knB k = false) : clsB k c = false := by
  obtain ⟨h1, h2, h3, h4, h5, h6, h7, h8, h9⟩ := knB_no h
  simp only [beq_eq_false_iff_ne, ne_eq] at h1 h2 h3 h4 h5 h6 h7 h8 h9
  simp [clsB, h1, h2, h3, h4, h5, h6, h7, h8, h9]

-- BEGIN rbetween
theorem rbetween_any (c a b : Int) (w : World) :
    Calls Tryz.prog 101 #[.int .u8 c, .int .u8 a, .int .u8 b] w fun e w' => e = .returned (.bool (bt c a b)) ∧ w' = w := by
  by_cases h1 : a ≤ c
  · by_cases h2 : c ≤ b
    · rw [bt_yes h1 h2]
      go_enter Tryz.func101, Tryz.ntmps101
      go_wp2
      go_ret
      exact ⟨rfl, rfl⟩
    · rw [bt_no2 h2]
      go_enter Tryz.func101, Tryz.ntmps101
      go_wp2
      go_ret
      exact ⟨rfl, rfl⟩
  · rw [bt_no1 h1]
    go_enter Tryz.func101, Tryz.ntmps101
    go_wp2
    go_ret
    exact ⟨rfl, rfl⟩
-- END
-- BEGIN rbetween rsmall
theorem rsmall_any (c : Int) (w : World) :
    Calls Tryz.prog 102 #[.int .u8 c] w fun e w' => e = .returned (.bool (smlB c)) ∧ w' = w := by
  unfold smlB
  go_enter Tryz.func102, Tryz.ntmps102
  go_wp2_with (go_at_call 101; refine (rbetween_any _ _ _ _).mono ?_; rintro e w' ⟨rfl, rfl⟩)
  go_ret
  exact ⟨rfl, rfl⟩
-- END
-- BEGIN rbetween rgreat
theorem rgreat_any (c : Int) (w : World) :
    Calls Tryz.prog 70 #[.int .u8 c] w fun e w' => e = .returned (.bool (grtB c)) ∧ w' = w := by
  unfold grtB
  go_enter Tryz.func70, Tryz.ntmps70
  go_wp2_with (go_at_call 101; refine (rbetween_any _ _ _ _).mono ?_; rintro e w' ⟨rfl, rfl⟩)
  go_ret
  exact ⟨rfl, rfl⟩
-- END
-- BEGIN rbetween rdigit
theorem rdigit_any (c : Int) (w : World) :
    Calls Tryz.prog 100 #[.int .u8 c] w fun e w' => e = .returned (.bool (digB c)) ∧ w' = w := by
  unfold digB
  go_enter Tryz.func100, Tryz.ntmps100
  go_wp2_with (go_at_call 101; refine (rbetween_any _ _ _ _).mono ?_; rintro e w' ⟨rfl, rfl⟩)
  go_ret
  exact ⟨rfl, rfl⟩
-- END
-- BEGIN rSmall rgreat
theorem rSmall_any (c : Int) (w : World) :
    Calls Tryz.prog 69 #[.int .u8 c] w fun e w' => e = .returned (.int .u8 (smI c)) ∧ w' = w := by
  unfold smI
  cases h : grtB c
  · go_enter Tryz.func69, Tryz.ntmps69
    go_wp2_with (go_at_call 70; refine (rgreat_any _ _).mono ?_; rintro e w' ⟨rfl, rfl⟩)
    go_ret
    exact ⟨rfl, rfl⟩
  · obtain ⟨h1, h2⟩ := grtB_iff.1 h
    go_enter Tryz.func69, Tryz.ntmps69
    go_wp2_with (go_at_call 70; refine (rgreat_any _ _).mono ?_; rintro e w' ⟨rfl, rfl⟩)
    go_ret
    exact ⟨rfl, rfl⟩
-- END
-- END
-- BEGIN plain
theorem plain_no (k c : Int) (w : World) (h : knB k = false) :
    Calls Tryz.prog 68 #[.int .u8 k, .int .u8 c] w fun e w' => e = .returned (.tuple #[.bool false, .bool false]) ∧ w' = w := by
  obtain ⟨h1, h2, h3, h4, h5, h6, h7, h8, h9⟩ := knB_no h
  clear h
  go_enter Tryz.func68, Tryz.ntmps68
  go_wp2
  go_ret2
  exact ⟨rfl, rfl⟩
theorem plain_d (c : Int) (w : World) :
    Calls Tryz.prog 68 #[.int .u8 100, .int .u8 c] w fun e w' => e = .returned (.tuple #[.bool (digB c), .bool true]) ∧ w' = w := by
  go_enter Tryz.func68, Tryz.ntmps68
  go_wp2_with (go_at_call 100; refine (rdigit_any _ _).mono ?_; rintro e w' ⟨rfl, rfl⟩)
  go_ret2
  exact ⟨rfl, rfl⟩
theorem plain_x (c : Int) (w : World) :
    Calls Tryz.prog 68 #[.int .u8 120, .int .u8 c] w fun e w' => e = .returned (.tuple #[.bool (hexB c), .bool true]) ∧ w' = w := by
  unfold hexB
  cases h1 : digB c <;> cases h2 : bt c 97 102
  all_goals
    go_enter Tryz.func68, Tryz.ntmps68
    go_wp2_with (first | (go_at_call 100; refine (rdigit_any _ _).mono ?_; rintro e w' ⟨rfl, rfl⟩) | (go_at_call 101; refine (rbetween_any _ _ _ _).mono ?_; rintro e w' ⟨rfl, rfl⟩))
    go_ret2
    exact ⟨rfl, rfl⟩
theorem plain_o (c : Int) (w : World) :
    Calls Tryz.prog 68 #[.int .u8 111, .int .u8 c] w fun e w' => e = .returned (.tuple #[.bool (octB c), .bool true]) ∧ w' = w := by
  unfold octB
  go_enter Tryz.func68, Tryz.ntmps68
  go_wp2_with (go_at_call 101; refine (rbetween_any _ _ _ _).mono ?_; rintro e w' ⟨rfl, rfl⟩)
  go_ret2
  exact ⟨rfl, rfl⟩
theorem wrd_other (c : Int) : wrdB c = (smlB c || grtB c || digB c || c == 95) := by
  unfold wrdB hedB letB
  cases smlB c <;> cases grtB c <;> cases digB c <;> cases (c == 95) <;> rfl
theorem plain_w (c : Int) (w : World) :
    Calls Tryz.prog 68 #[.int .u8 119, .int .u8 c] w fun e w' => e = .returned (.tuple #[.bool (wrdB c), .bool true]) ∧ w' = w := by
  rw [wrd_other]
  cases h1 : smlB c <;> cases h2 : grtB c <;> cases h3 : digB c
  all_goals
    go_enter Tryz.func68, Tryz.ntmps68
    go_wp2_with (first | (go_at_call 100; refine (rdigit_any _ _).mono ?_; rintro e w' ⟨rfl, rfl⟩) | (go_at_call 102; refine (rsmall_any _ _).mono ?_; rintro e w' ⟨rfl, rfl⟩) | (go_at_call 70; refine (rgreat_any _ _).mono ?_; rintro e w' ⟨rfl, rfl⟩))
    go_ret2
    exact ⟨rfl, rfl⟩
theorem plain_h (c : Int) (w : World) :
    Calls Tryz.prog 68 #[.int .u8 104, .int .u8 c] w fun e w' => e = .returned (.tuple #[.bool (hedB c), .bool true]) ∧ w' = w := by
  unfold hedB letB
  cases h1 : smlB c <;> cases h2 : grtB c
  all_goals
    go_enter Tryz.func68, Tryz.ntmps68
    go_wp2_with (first | (go_at_call 102; refine (rsmall_any _ _).mono ?_; rintro e w' ⟨rfl, rfl⟩) | (go_at_call 70; refine (rgreat_any _ _).mono ?_; rintro e w' ⟨rfl, rfl⟩))
    go_ret2
    exact ⟨rfl, rfl⟩
theorem plain_a (c : Int) (w : World) :
    Calls Tryz.prog 68 #[.int .u8 97, .int .u8 c] w fun e w' => e = .returned (.tuple #[.bool (letB c), .bool true]) ∧ w' = w := by
  unfold letB
  cases h1 : smlB c
  all_goals
    go_enter Tryz.func68, Tryz.ntmps68
    go_wp2_with (first | (go_at_call 102; refine (rsmall_any _ _).mono ?_; rintro e w' ⟨rfl, rfl⟩) | (go_at_call 70; refine (rgreat_any _ _).mono ?_; rintro e w' ⟨rfl, rfl⟩))
    go_ret2
    exact ⟨rfl, rfl⟩
theorem plain_l (c : Int) (w : World) :
    Calls Tryz.prog 68 #[.int .u8 108, .int .u8 c] w fun e w' => e = .returned (.tuple #[.bool (smlB c), .bool true]) ∧ w' = w := by
  go_enter Tryz.func68, Tryz.ntmps68
  go_wp2_with (go_at_call 102; refine (rsmall_any _ _).mono ?_; rintro e w' ⟨rfl, rfl⟩)
  go_ret2
  exact ⟨rfl, rfl⟩
theorem plain_u (c : Int) (w : World) :
    Calls Tryz.prog 68 #[.int .u8 117, .int .u8 c] w fun e w' => e = .returned (.tuple #[.bool (grtB c), .bool true]) ∧ w' = w := by
  go_enter Tryz.func68, Tryz.ntmps68
  go_wp2_with (go_at_call 70; refine (rgreat_any _ _).mono ?_; rintro e w' ⟨rfl, rfl⟩)
  go_ret2
  exact ⟨rfl, rfl⟩
theorem plain_s (c : Int) (w : World) :
    Calls Tryz.prog 68 #[.int .u8 115, .int .u8 c] w fun e w' => e = .returned (.tuple #[.bool (blkB c), .bool true]) ∧ w' = w := by
  unfold blkB
  cases h : (c == 32)
  all_goals
    go_enter Tryz.func68, Tryz.ntmps68
    go_wp2
    go_ret2
    exact ⟨rfl, rfl⟩
theorem plain_any (k c : Int) (w : World) :
    Calls Tryz.prog 68 #[.int .u8 k, .int .u8 c] w fun e w' => e = .returned (.tuple #[.bool (clsB k c), .bool (knB k)]) ∧ w' = w := by
  cases h : knB k
  · rw [clsB_no c h]
    exact plain_no k c w h
  · rcases knB_yes h with rfl | rfl | rfl | rfl | rfl | rfl | rfl | rfl | rfl
    · exact plain_d c w
    · exact plain_x c w
    · exact plain_o c w
    · exact plain_w c w
    · exact plain_h c w
    · exact plain_a c w
    · exact plain_l c w
    · exact plain_u c w
    · exact plain_s c w
-- END
-- END
-- BEGIN plain rIs rSmall rgreat
theorem rIs_any (k c : Int) (w : World) :
    Calls Tryz.prog 36 #[.int .u8 k, .int .u8 c] w fun e w' => e = .returned (.bool (isB k c)) ∧ w' = w := by
  unfold isB
  cases h1 : knB (smI k) <;> cases h2 : grtB k
  all_goals
    go_enter Tryz.func36, Tryz.ntmps36
    go_wp2_with (first | (go_at_call 69; refine (rSmall_any _ _).mono ?_; rintro e w' ⟨rfl, rfl⟩) | (go_at_call 68; refine (plain_any _ _ _).mono ?_; rintro e w' ⟨rfl, rfl⟩) | (go_at_call 70; refine (rgreat_any _ _).mono ?_; rintro e w' ⟨rfl, rfl⟩))
    go_ret
    exact ⟨by simp, rfl⟩
-- END
-- END

end Go.Proofs.YtfgapmfjfienhaaGreatDoor
/- The calls of package kind that ask one byte (Small, Great, Same, Known, Is) return just what plain functions of the bytes say, and write nothing that was there. -/
namespace Go.Proofs.YtfgapmfjfienhaaGreatDoor
open Go.ChangeShapes Go.WideShapes Go.ChangeAt Go.RowKit

theorem bw_alloc {a b : World} (h : Below a.heap.size a b) (o : Obj) : Below a.heap.size a (b.alloc o) := h.alloc h.size o
theorem bw_trans {a b c : World} (h : Below a.heap.size a b) (k : Below b.heap.size b c) : Below a.heap.size a c := h.trans (k.mono h.size)

theorem kSmall_any (c : Int) (w : World) :
    Calls Tryz.prog 87 #[.int .u8 c] w fun e w' => e = .returned (.int .u8 (smI c)) ∧ w' = w := by
  unfold smI
  cases h : grtB c
  · go_enter Tryz.func87, Tryz.ntmps87
    go_wp2_with (go_at_call 111; refine (isGreat_any _ _).mono ?_; rintro e w' ⟨rfl, rfl⟩)
    go_ret
    exact ⟨rfl, rfl⟩
  · obtain ⟨h1, h2⟩ := grtB_iff.1 h
    go_enter Tryz.func87, Tryz.ntmps87
    go_wp2_with (go_at_call 111; refine (isGreat_any _ _).mono ?_; rintro e w' ⟨rfl, rfl⟩)
    go_ret
    exact ⟨ret_u8 (by omega), rfl⟩
-- END
/-- the test of a class, by its small letter -/
def fnum (k : Int) : Option Nat :=
  if k = 100 then some 112 else if k = 120 then some 113 else if k = 111 then some 114 else if k = 119 then some 115 else if k = 104 then some 116
  else if k = 97 then some 117 else if k = 108 then some 118 else if k = 117 then some 111 else if k = 115 then some 119 else none
theorem fnum_some {k : Int} {n : Nat} (h : fnum k = some n) : (k = 100 ∧ n = 112) ∨ (k = 120 ∧ n = 113) ∨ (k = 111 ∧ n = 114) ∨ (k = 119 ∧ n = 115) ∨ (k = 104 ∧ n = 116) ∨ (k = 97 ∧ n = 117) ∨ (k = 108 ∧ n = 118) ∨ (k = 117 ∧ n = 111) ∨ (k = 115 ∧ n = 119) := by
  unfold fnum at h
  repeat' split at h
  all_goals simp at h
  all_goals omega
theorem fnum_none {k : Int} (h : fnum k = none) : knB k = false := by
  cases hk : knB k
  · rfl
  · rcases knB_yes hk with rfl | rfl | rfl | rfl | rfl | rfl | rfl | rfl | rfl <;> simp [fnum] at h
theorem fnum_is {k : Int} {n : Nat} (h : fnum k = some n) : knB k = true := by
  rcases fnum_some h with ⟨rfl, _⟩ | ⟨rfl, _⟩ | ⟨rfl, _⟩ | ⟨rfl, _⟩ | ⟨rfl, _⟩ | ⟨rfl, _⟩ | ⟨rfl, _⟩ | ⟨rfl, _⟩ | ⟨rfl, _⟩ <;> rfl

theorem test_yes {k : Int} {n : Nat} (h : fnum k = some n) (c : Int) (w : World) :
    Calls Tryz.prog n #[.int .u8 c] w fun e w' => e = .returned (.bool (clsB k c)) ∧ w' = w := by
  rcases fnum_some h with ⟨rfl, rfl⟩ | ⟨rfl, rfl⟩ | ⟨rfl, rfl⟩ | ⟨rfl, rfl⟩ | ⟨rfl, rfl⟩ | ⟨rfl, rfl⟩ | ⟨rfl, rfl⟩ | ⟨rfl, rfl⟩ | ⟨rfl, rfl⟩
  · exact isDigit_any c w
  · exact isHex_any c w
  · exact isOctal_any c w
  · exact isWord_any c w
  · exact isHead_any c w
  · exact isLetter_any c w
  · exact isSmall_any c w
  · exact isGreat_any c w
  · exact isBlank_any c w

theorem classTest_no {k : Int} (h : fnum k = none) (w : World) :
    Calls Tryz.prog 88 #[.int .u8 k] w fun e w' => e = .returned .nilFunc ∧ w' = w := by
  obtain ⟨h1, h2, h3, h4, h5, h6, h7, h8, h9⟩ := knB_no (fnum_none h)
  clear h
  go_enter Tryz.func88, Tryz.ntmps88
  go_wp2
  go_ret
  exact ⟨rfl, rfl⟩
theorem classTest_yes {k : Int} {n : Nat} (h : fnum k = some n) (w : World) :
    Calls Tryz.prog 88 #[.int .u8 k] w fun e w' => e = .returned (.func (Fn.func n) #[] #[]) ∧ w' = w := by
  rcases fnum_some h with ⟨rfl, rfl⟩ | ⟨rfl, rfl⟩ | ⟨rfl, rfl⟩ | ⟨rfl, rfl⟩ | ⟨rfl, rfl⟩ | ⟨rfl, rfl⟩ | ⟨rfl, rfl⟩ | ⟨rfl, rfl⟩ | ⟨rfl, rfl⟩
  all_goals
    clear h
    go_enter Tryz.func88, Tryz.ntmps88
    go_wp2
    go_ret
    exact ⟨rfl, rfl⟩

theorem eql_nil (w : World) : Sem.run Tryz.prog (binOp BinOp.eql 87 Value.nilFunc Value.nilFunc) w = .ok (.bool true) w := by kernel_rfl
theorem eql_fn (n : Nat) (w : World) : Sem.run Tryz.prog (binOp BinOp.eql 87 (Value.func (Fn.func n) #[] #[]) Value.nilFunc) w = .ok (.bool false) w := by kernel_rfl

theorem classOf_no {k : Int} (h : fnum (smI k) = none) (w : World) :
    Calls Tryz.prog 61 #[.int .u8 k] w fun e w' => e = .returned (.tuple #[.agg #[.nilFunc, .bool false], .bool false]) ∧ Below w.heap.size w w' := by
  have hq := eql_nil
  go_enter Tryz.func61, Tryz.ntmps61
  go_wp2_with (first | (go_at_call 87; refine (kSmall_any _ _).mono ?_; rintro e w' ⟨rfl, rfl⟩) | (go_at_call 88; refine (classTest_no h _).mono ?_; rintro e w' ⟨rfl, rfl⟩))
  exact bodyPost_ret (v := .tuple #[.agg #[.nilFunc, .bool false], .bool false]) (by simp [results, Tryz.results61, go_sem]) rfl ⟨rfl, bw_alloc (Below.refl _ _) _⟩
theorem classOf_yes {k : Int} {n : Nat} (h : fnum (smI k) = some n) (w : World) :
    Calls Tryz.prog 61 #[.int .u8 k] w fun e w' => e = .returned (.tuple #[.agg #[.func (Fn.func n) #[] #[], .bool (smI k != k)], .bool true]) ∧ Below w.heap.size w w' := by
  have hq := eql_fn n
  go_enter Tryz.func61, Tryz.ntmps61
  go_wp2_with (first | (go_at_call 87; refine (kSmall_any _ _).mono ?_; rintro e w' ⟨rfl, rfl⟩) | (go_at_call 88; refine (classTest_yes h _).mono ?_; rintro e w' ⟨rfl, rfl⟩))
  exact bodyPost_ret (v := .tuple #[.agg #[.func (Fn.func n) #[] #[], .bool (smI k != k)], .bool true]) (by simp [results, Tryz.results61, go_sem]) rfl ⟨rfl, bw_alloc (Below.refl _ _) _⟩

theorem ghas_isDigit (o : Bool) (c : Int) (w : World) :
    Calls Tryz.prog 62 #[.agg #[.func (Fn.func 112) #[] #[], .bool o], .int .u8 c] w fun e w' => e = .returned (.bool (digB c != o)) ∧ Below w.heap.size w w' := by
  go_enter Tryz.func62, Tryz.ntmps62
  go_wp2
  go_quiet ((go_at_call 112; exact Calls.quiet_of_same (isDigit_any _ _)))
  go_wp2
  go_ret
  exact ⟨rfl, below_drewN (bw_alloc (Below.refl _ _) _) _⟩
theorem ghas_isHex (o : Bool) (c : Int) (w : World) :
    Calls Tryz.prog 62 #[.agg #[.func (Fn.func 113) #[] #[], .bool o], .int .u8 c] w fun e w' => e = .returned (.bool (hexB c != o)) ∧ Below w.heap.size w w' := by
  go_enter Tryz.func62, Tryz.ntmps62
  go_wp2
  go_quiet ((go_at_call 113; exact Calls.quiet_of_same (isHex_any _ _)))
  go_wp2
  go_ret
  exact ⟨rfl, below_drewN (bw_alloc (Below.refl _ _) _) _⟩
theorem ghas_isOctal (o : Bool) (c : Int) (w : World) :
    Calls Tryz.prog 62 #[.agg #[.func (Fn.func 114) #[] #[], .bool o], .int .u8 c] w fun e w' => e = .returned (.bool (octB c != o)) ∧ Below w.heap.size w w' := by
  go_enter Tryz.func62, Tryz.ntmps62
  go_wp2
  go_quiet ((go_at_call 114; exact Calls.quiet_of_same (isOctal_any _ _)))
  go_wp2
  go_ret
  exact ⟨rfl, below_drewN (bw_alloc (Below.refl _ _) _) _⟩
theorem ghas_isWord (o : Bool) (c : Int) (w : World) :
    Calls Tryz.prog 62 #[.agg #[.func (Fn.func 115) #[] #[], .bool o], .int .u8 c] w fun e w' => e = .returned (.bool (wrdB c != o)) ∧ Below w.heap.size w w' := by
  go_enter Tryz.func62, Tryz.ntmps62
  go_wp2
  go_quiet ((go_at_call 115; exact Calls.quiet_of_same (isWord_any _ _)))
  go_wp2
  go_ret
  exact ⟨rfl, below_drewN (bw_alloc (Below.refl _ _) _) _⟩
theorem ghas_isHead (o : Bool) (c : Int) (w : World) :
    Calls Tryz.prog 62 #[.agg #[.func (Fn.func 116) #[] #[], .bool o], .int .u8 c] w fun e w' => e = .returned (.bool (hedB c != o)) ∧ Below w.heap.size w w' := by
  go_enter Tryz.func62, Tryz.ntmps62
  go_wp2
  go_quiet ((go_at_call 116; exact Calls.quiet_of_same (isHead_any _ _)))
  go_wp2
  go_ret
  exact ⟨rfl, below_drewN (bw_alloc (Below.refl _ _) _) _⟩
theorem ghas_isLetter (o : Bool) (c : Int) (w : World) :
    Calls Tryz.prog 62 #[.agg #[.func (Fn.func 117) #[] #[], .bool o], .int .u8 c] w fun e w' => e = .returned (.bool (letB c != o)) ∧ Below w.heap.size w w' := by
  go_enter Tryz.func62, Tryz.ntmps62
  go_wp2
  go_quiet ((go_at_call 117; exact Calls.quiet_of_same (isLetter_any _ _)))
  go_wp2
  go_ret
  exact ⟨rfl, below_drewN (bw_alloc (Below.refl _ _) _) _⟩
theorem ghas_isSmall (o : Bool) (c : Int) (w : World) :
    Calls Tryz.prog 62 #[.agg #[.func (Fn.func 118) #[] #[], .bool o], .int .u8 c] w fun e w' => e = .returned (.bool (smlB c != o)) ∧ Below w.heap.size w w' := by
  go_enter Tryz.func62, Tryz.ntmps62
  go_wp2
  go_quiet ((go_at_call 118; exact Calls.quiet_of_same (isSmall_any _ _)))
  go_wp2
  go_ret
  exact ⟨rfl, below_drewN (bw_alloc (Below.refl _ _) _) _⟩
theorem ghas_isGreat (o : Bool) (c : Int) (w : World) :
    Calls Tryz.prog 62 #[.agg #[.func (Fn.func 111) #[] #[], .bool o], .int .u8 c] w fun e w' => e = .returned (.bool (grtB c != o)) ∧ Below w.heap.size w w' := by
  go_enter Tryz.func62, Tryz.ntmps62
  go_wp2
  go_quiet ((go_at_call 111; exact Calls.quiet_of_same (isGreat_any _ _)))
  go_wp2
  go_ret
  exact ⟨rfl, below_drewN (bw_alloc (Below.refl _ _) _) _⟩
theorem ghas_isBlank (o : Bool) (c : Int) (w : World) :
    Calls Tryz.prog 62 #[.agg #[.func (Fn.func 119) #[] #[], .bool o], .int .u8 c] w fun e w' => e = .returned (.bool (blkB c != o)) ∧ Below w.heap.size w w' := by
  go_enter Tryz.func62, Tryz.ntmps62
  go_wp2
  go_quiet ((go_at_call 119; exact Calls.quiet_of_same (isBlank_any _ _)))
  go_wp2
  go_ret
  exact ⟨rfl, below_drewN (bw_alloc (Below.refl _ _) _) _⟩
theorem ghas_any {k : Int} {n : Nat} (h : fnum k = some n) (o : Bool) (c : Int) (w : World) :
    Calls Tryz.prog 62 #[.agg #[.func (Fn.func n) #[] #[], .bool o], .int .u8 c] w fun e w' => e = .returned (.bool (clsB k c != o)) ∧ Below w.heap.size w w' := by
  rcases fnum_some h with ⟨rfl, rfl⟩ | ⟨rfl, rfl⟩ | ⟨rfl, rfl⟩ | ⟨rfl, rfl⟩ | ⟨rfl, rfl⟩ | ⟨rfl, rfl⟩ | ⟨rfl, rfl⟩ | ⟨rfl, rfl⟩ | ⟨rfl, rfl⟩
  · exact ghas_isDigit o c w
  · exact ghas_isHex o c w
  · exact ghas_isOctal o c w
  · exact ghas_isWord o c w
  · exact ghas_isHead o c w
  · exact ghas_isLetter o c w
  · exact ghas_isSmall o c w
  · exact ghas_isGreat o c w
  · exact ghas_isBlank o c w

theorem great_is (k : Int) : (smI k != k) = grtB k := by
  unfold smI
  cases h : grtB k
  · simp
  · simp
    omega

theorem kIs_any (k c : Int) (w : World) :
    Calls Tryz.prog 27 #[.int .u8 k, .int .u8 c] w fun e w' => e = .returned (.bool (isB k c)) ∧ Below w.heap.size w w' := by
  unfold isB
  cases h : fnum (smI k) with
  | none =>
    rw [fnum_none h]
    go_enter Tryz.func27, Tryz.ntmps27
    go_wp2_with (go_at_call 61; refine (classOf_no h _).mono ?_; rintro e w1 ⟨rfl, hb1⟩)
    go_ret
    exact ⟨rfl, bw_alloc hb1 _⟩
  | some n =>
    rw [fnum_is h, ← great_is k, Bool.true_and]
    go_enter Tryz.func27, Tryz.ntmps27
    go_wp2_with (first | (go_at_call 61; refine (classOf_yes h _).mono ?_; rintro e w1 ⟨rfl, hb1⟩) | (go_at_call 62; refine (ghas_any h _ _ _).mono ?_; rintro e w2 ⟨rfl, hb2⟩))
    go_ret
    exact ⟨rfl, bw_trans (bw_alloc hb1 _) hb2⟩

-- END

end Go.Proofs.YtfgapmfjfienhaaGreatDoor
/- A place in a text: the byte that comes, one of these. -/
namespace Go.Proofs.YtfgapmfjfienhaaGreatDoor
open Go.ChangeShapes Go.WideShapes Go.ChangeAt Go.RowKit Go.Maps Go.MapKept
set_option linter.unusedVariables false
set_option linter.unusedSimpArgs false
set_option maxRecDepth 100000
theorem indexByteL_any (s : ByteArray) (c : Int) (w : World) :
    Calls Tryz.prog 136 #[.string s, .int .u8 c] w fun e w' => e = .returned (.int .i64 (Lib.indexByte s.data.toList c.toNat.toUInt8)) ∧ w' = w := by
  go_enter Tryz.func136, Tryz.ntmps136
  go_wp2
  rw [run_callFunc_extern Tryz.func148 (by kernel_rfl) (by kernel_rfl) (by kernel_rfl) (e := Extern.BytealgIndexByte.indexByte) (by kernel_rfl), Lib.run_indexByteString]
  simp only [Result.andThen]
  rw [Oper.upon_value]
  go_wp2
  go_ret
  exact ⟨rfl, rfl⟩
theorem indexByte_any (s : ByteArray) (c : Int) (w : World) :
    Calls Tryz.prog 109 #[.string s, .int .u8 c] w fun e w' => e = .returned (.int .i64 (Lib.indexByte s.data.toList c.toNat.toUInt8)) ∧ w' = w := by
  go_enter Tryz.func109, Tryz.ntmps109
  go_wp2_with (go_at_call 136; refine (indexByteL_any _ _ _).mono ?_; rintro e w' ⟨rfl, rfl⟩)
  go_ret
  exact ⟨rfl, rfl⟩
/-- Is a byte one of a text's? -/
def amo (c : Nat) (m : ByteArray) : Bool := decide (0 ≤ Lib.indexByte m.data.toList c.toUInt8)
/-- At block b stands a place in a text. -/
def Plc (T : TypeId) (s : ByteArray) (at_ b : Nat) (w : World) : Prop := Lc T b [.string s, .int .i64 at_] w
section
variable {T : TypeId} {s m : ByteArray} {at_ b : Nat} {w w1 : World}
theorem Plc.kp (h : Plc T s at_ b w) (k : Kp w w1) : Plc T s at_ b w1 := Lc.kp h k
theorem Plc.to (h : Plc T s at_ b w) (n : Nat) : Plc T s n b (w.setCell ⟨b, 1, none⟩ (.int .i64 (n : Int))) := Lc.set h 1 _
theorem Plc.c0 (h : Plc T s at_ b w) : w.cell? ⟨b, 0, none⟩ = some (.string s) := Lc.at h (j := 0) rfl
theorem Plc.c1 (h : Plc T s at_ b w) : w.cell? ⟨b, 1, none⟩ = some (.int .i64 at_) := Lc.at h (j := 1) rfl
theorem Plc.f1 (h : Plc T s at_ b w) : w.frozen? ⟨b, 1, none⟩ = false := Lc.fz h 1
theorem next_end (h : Plc T s s.size b w) (hs : s.size ≤ 1000000) :
    Calls Tryz.prog 141 #[.pointer (some ⟨b, 0, none⟩)] w fun e w' => e = .returned (.tuple #[.int .u8 0, .bool false]) ∧ ∃ q, w' = w.drewN q := by
  have c0 := h.c0; have c1 := h.c1
  clear h
  go_enter Tryz.func141, Tryz.ntmps141
  go_wp2
  go_quiet (fail)
  go_wp2
  go_ret2
  exact ⟨rfl, _, rfl⟩
theorem next_one (h : Plc T s at_ b w) (hs : s.size ≤ 1000000) (ha : at_ < s.size) :
    Calls Tryz.prog 141 #[.pointer (some ⟨b, 0, none⟩)] w fun e w' => e = .returned (.tuple #[.int .u8 (byteAt s at_), .bool true]) ∧ Fr (On b) w w' ∧ Plc T s (at_ + 1) b w' := by
  have HB : Hid (byteAt s at_ = (s[at_]).toNat) := byteAt_eq s at_ ha
  have HF : Hid (∀ q r, Fr (On b) w (((w.drewN q).setCell ⟨b, 1, none⟩ (.int .i64 ((at_ : Int) + 1))).drewN r) ∧ Plc T s (at_ + 1) b (((w.drewN q).setCell ⟨b, 1, none⟩ (.int .i64 ((at_ : Int) + 1))).drewN r)) := fun q r =>
    ⟨((Fr.drewN _ w q).trans (fr_set _ _ _ _)).trans (Fr.drewN _ _ r), ((h.kp (kp_drewN w q)).to (at_ + 1)).kp (kp_drewN _ r)⟩
  have c0 := h.c0; have c1 := h.c1; have f1 := h.f1
  have hne : ((at_ : Int) == (s.size : Int)) = false := by simp; omega
  clear h
  go_enter Tryz.func141, Tryz.ntmps141
  go_wp2
  go_quiet (fail)
  go_wp2
  go_quiet (fail)
  go_wp2
  go_ret2
  exact ⟨by rw [HB.out]; rfl, HF.out _ _⟩
theorem oneOf_end (h : Plc T s s.size b w) (hs : s.size ≤ 1000000) :
    Calls Tryz.prog 127 #[.pointer (some ⟨b, 0, none⟩), .string m] w fun e w' => e = .returned (.tuple #[.int .u8 0, .bool false]) ∧ ∃ q, w' = w.drewN q := by
  have c0 := h.c0; have c1 := h.c1
  have hne : ((s.size : Int) == (s.size : Int)) = true := by simp
  clear h
  go_enter Tryz.func127, Tryz.ntmps127
  go_wp2
  go_quiet (fail)
  go_wp2
  go_ret2
  exact ⟨rfl, _, rfl⟩
theorem amo_neg (m : ByteArray) (c : UInt8) (h : amo c.toNat m = false) : decide (Lib.indexByte m.data.toList c < 0) = true := by
  unfold amo at h
  rw [show c.toNat.toUInt8 = c by simp] at h
  have := of_decide_eq_false h
  exact decide_eq_true (by omega)
theorem amo_pos (m : ByteArray) (c : UInt8) (h : amo c.toNat m = true) : decide (Lib.indexByte m.data.toList c < 0) = false := by
  unfold amo at h
  rw [show c.toNat.toUInt8 = c by simp] at h
  have := of_decide_eq_true h
  exact decide_eq_false (by omega)
theorem oneOf_no (h : Plc T s at_ b w) (hs : s.size ≤ 1000000) (ha : at_ < s.size) (hm : amo (byteAt s at_) m = false) :
    Calls Tryz.prog 127 #[.pointer (some ⟨b, 0, none⟩), .string m] w fun e w' => e = .returned (.tuple #[.int .u8 0, .bool false]) ∧ ∃ q, w' = w.drewN q := by
  have c0 := h.c0; have c1 := h.c1
  have hne : ((at_ : Int) == (s.size : Int)) = false := by simp; omega
  rw [byteAt_eq s at_ ha] at hm
  have hd := amo_neg m _ hm
  clear h hm
  go_enter Tryz.func127, Tryz.ntmps127
  go_wp2
  go_quiet ((go_at_call 109; exact Calls.quiet_of_same (indexByte_any _ _ _)))
  go_wp2
  go_ret2
  exact ⟨rfl, _, rfl⟩
theorem oneOf_yes (h : Plc T s at_ b w) (hs : s.size ≤ 1000000) (ha : at_ < s.size) (hm : amo (byteAt s at_) m = true) :
    Calls Tryz.prog 127 #[.pointer (some ⟨b, 0, none⟩), .string m] w fun e w' => e = .returned (.tuple #[.int .u8 (byteAt s at_), .bool true]) ∧ Fr (On b) w w' ∧ Plc T s (at_ + 1) b w' := by
  have HN : Hid (∀ q, Calls Tryz.prog 141 #[.pointer (some ⟨b, 0, none⟩)] (w.drewN q) fun e w' => e = .returned (.tuple #[.int .u8 (byteAt s at_), .bool true]) ∧ Hid (Fr (On b) w w' ∧ Plc T s (at_ + 1) b w')) := fun q => (next_one (h.kp (kp_drewN w q)) hs ha).mono (by
    rintro e w' ⟨rfl, q1, q2⟩
    exact ⟨rfl, (Fr.drewN _ w q).trans q1, q2⟩)
  have c0 := h.c0; have c1 := h.c1
  have hne : ((at_ : Int) == (s.size : Int)) = false := by simp; omega
  rw [byteAt_eq s at_ ha] at hm
  have hd := amo_pos m _ hm
  clear h hm
  go_enter Tryz.func127, Tryz.ntmps127
  go_wp2_with fail
  go_quiet ((go_at_call 109; exact Calls.quiet_of_same (indexByte_any _ _ _)))
  go_wp2_with fail
  refine Calls.mono (HN.out _) ?_
  rintro e w2 ⟨rfl, HX⟩
  clear HN
  go_wp2_with fail
  go_ret2
  exact ⟨rfl, HX.out⟩
end
theorem adig_any (c : Int) (w : World) : Calls Tryz.prog 154 #[.int .u8 c] w fun e w' => e = .returned (.bool (isB 100 c)) ∧ Kp w w' := by
  have HK : Hid _ := kIs_any (k := 100) (c := c) (w := w)
  go_enter Tryz.func154, Tryz.ntmps154
  go_wp2_with fail
  refine Calls.mono HK.out ?_
  rintro e w2 ⟨rfl, k⟩
  have HX : Hid _ := k
  clear HK k
  go_wp2_with fail
  go_ret
  exact ⟨rfl, HX.out⟩
end Go.Proofs.YtfgapmfjfienhaaGreatDoor
/- An operation taken ahead of the others. -/
namespace Go.Proofs.YtfgapmfjfienhaaGreatDoor
open Go.ChangeShapes Go.WideShapes Go.ChangeAt Go.RowKit
theorem takeAt {P : Program} {ops : Array Oper} {Q : Exit → Act → World → Prop} {md : Region.Mode} {S : World → Prop} (i : Nat) (dst : Option Tmp) (v : Value) {oi : Oper} {fuel : Nat} {listed : Array Bool} {a : Act} {w : World} (hi : ops[i]? = some oi) (hd : oi.dst = dst)
    (hs : Region.noSelect ops = true) (hf : Region.free md ops listed i = true) (hr : (Region.ready md ops listed).contains i = true)
    (hQ : ∀ c a w, Q (.panic c) (a.put dst v) w → Q (.panic c) a w) (hy : YieldsIf P ops S oi v a) (hS : S w)
    (h : wpAnyH P md ops Q S fuel (listed.setIfInBounds i true) (a.put dst v) w) : wpAnyH P md ops Q S (fuel + 1) listed a w := by
  subst hd
  exact wpAnyH_take hi hs hf hr hQ hy hS h
theorem run_callGo {P : Program} {f : FuncId} {fn : Func} (args : Array Value) (w : World) (hf : P.funcs[f]? = some fn) (hn : (fn.name == "runtime.NumGoroutine") = false) (hb : fn.body.isNone = false) : (callFunc f args).run P w = .ok (.enter f args) w := by
  have h1 : ¬ fn.name = "runtime.NumGoroutine" := by simpa using hn
  have h2 : ¬ fn.body = none := by intro e; rw [e] at hb; cases hb
  simp [callFunc, hf, h1, h2]
/-- A call of a function that is a value. -/
theorem call_stepV {P : Program} {Q : Exit → Act → World → Prop} {K : Act → World → Prop} (d : Tmp) (f : FuncId) {o : Oper} {fn : Func} {a : Act} {w : World} {x : Operand} {xs : Array Operand} {ats : Array TypeId} {vals : Array Value}
    (hop : o.op = .call { callee := .value x, args := xs, argTypes := ats }) (hx : a.eval x = .func (.func f) #[] #[]) (hd : o.dst = some d) (hv : xs.map a.eval = vals)
    (hf : P.funcs[f]? = some fn) (hn : (fn.name == "runtime.NumGoroutine") = false) (hb : fn.body.isNone = false)
    (h : Calls P f vals w fun e w' => ∃ v, e = .returned v ∧ K (a.put (some d) v) w') : Oper.wp P o a w K Q := by
  obtain ⟨dst, op, type, pos, after, guard⟩ := o
  simp only at hop hd
  subst hop; subst hd
  unfold Oper.wp
  have e : execOp a.eval { dst := some d, op := .call { callee := .value x, args := xs, argTypes := ats }, type := type, pos := pos, after := after, guard := guard } = callFunc f vals := by
    simp [execOp, resolve, invoke, Deferred.ofValue, hx, hv]
  rw [e, run_callGo vals w hf hn hb]
  simp only [Oper.upon]
  refine Calls.mono h ?_
  rintro e w' ⟨v, rfl, hW⟩
  exact hW
end Go.Proofs.YtfgapmfjfienhaaGreatDoor
