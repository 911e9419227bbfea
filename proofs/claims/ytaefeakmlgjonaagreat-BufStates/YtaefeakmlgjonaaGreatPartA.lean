/- Texts that the proof of the law stands on: VB, VM, VO, VA, VD, VE, VF. -/
import Derived.Test.YtaefeakmlgjonaaGreatRows
import Derived.Maps.RangeWalk
import Derived.Maps.Ext
import Derived.WalkKit
import Derived.ProofKit
import Derived.OpenShut
import Derived.Maps.AppendAt
import Derived.Deep.AppendLies
import Derived.Laws.IdiomStrings
import Derived.Laws.EntriesVeiled
import Derived.WalkSmall
import Derived.BigCall
import Derived.BigQuiet
import Derived.BigRegion
import Derived.Deep.QuietTactic
import Derived.Below
import Derived.LoopTactic
import Derived.RegionTactic
import Derived.Deep.RegionLaw
import Derived.Deep.RegionWith
import Derived.Deep.MidRow
import Derived.Laws.AppendOwn
import Derived.WalkLawsBesides
import Derived.Deep.Cut
import Derived.Deep.CutRange
import Derived.Laws.AppendOwnNone
import Derived.Laws.Concat
import Derived.Deep.RegionHeld3
/- What memory holds, and what a call leaves as it was. -/
namespace Go.Proofs.YtaefeakmlgjonaaGreat
open Go.ChangeShapes Go.WideShapes Go.ChangeAt Go.RowKit
set_option linter.unusedVariables false
set_option linter.unusedSimpArgs false
theorem drewN_heap (w : World) (n : Nat) : (w.drewN n).heap = w.heap := by induction n generalizing w <;> simp_all [World.drewN]
theorem drew2 (w : World) (a b : Nat) : (w.drewN a).drewN b = w.drewN (a + b) := by
  have e : ∀ (n : Nat) (w : World), w.drewN n = { w with drawn := w.drawn + n } := by
    intro n
    induction n with
    | zero => intro w; rfl
    | succ n ih => intro w; simp [World.drewN, World.drew, ih, Nat.add_assoc, Nat.add_comm 1 n]
  simp [e, Nat.add_assoc]
theorem heap_setCell {w : World} {b off : Nat} {v : Value} {cur : Array Value} {e : TypeId} {fr : Nat × Nat} (hg : w.heap[b]? = some (.cells cur e fr)) :
    (w.setCell ⟨b, off, none⟩ v).heap[b]? = some (.cells (cur.setIfInBounds off v) e fr) := by
  have hlt : b < w.heap.size := (Array.getElem?_eq_some_iff.1 hg).1
  simp [World.setCell, Array.getElem?_modify, hg]
theorem heap_setCell_other {w : World} {b off k : Nat} {v : Value} (hk : k ≠ b) : (w.setCell ⟨b, off, none⟩ v).heap[k]? = w.heap[k]? := by
  simp [World.setCell, Array.getElem?_modify, Ne.symm hk]
theorem size_setCell (w : World) (a : Addr) (v : Value) : (w.setCell a v).heap.size = w.heap.size := by simp [World.setCell]
theorem alloc_new (w : World) (ob : Obj) : (w.alloc ob).heap[w.heap.size]? = some ob := by show (w.heap.push ob)[w.heap.size]? = _; simp
theorem alloc_old (w : World) (ob : Obj) (k : Nat) (hk : k < w.heap.size) : (w.alloc ob).heap[k]? = w.heap[k]? := by
  show (w.heap.push ob)[k]? = _; rw [Array.getElem?_push_lt hk, Array.getElem?_eq_getElem hk]
theorem alloc_size (w : World) (ob : Obj) : (w.alloc ob).heap.size = w.heap.size + 1 := by show (w.heap.push ob).size = _; simp

/-- From w to w' no block that was there has turned but those of which 'S' speaks. -/
structure Fr (S : Nat → Prop) (w w' : World) : Prop where
  os : w'.os = w.os
  tape : w'.tape = w.tape
  output : w'.output = w.output
  size : w.heap.size ≤ w'.heap.size
  block : ∀ k, k < w.heap.size → ¬ S k → w'.heap[k]? = w.heap[k]?
section
variable {S S' : Nat → Prop} {w w1 w2 : World}
theorem Fr.refl (S : Nat → Prop) (w : World) : Fr S w w := ⟨rfl, rfl, rfl, Nat.le_refl _, fun _ _ _ => rfl⟩
theorem Fr.trans' (h : Fr S w w1) (h' : Fr S' w1 w2) (hs : ∀ k, k < w.heap.size → S' k → S k) : Fr S w w2 :=
  ⟨h'.os.trans h.os, h'.tape.trans h.tape, h'.output.trans h.output, Nat.le_trans h.size h'.size,
   fun k hk hn => (h'.block k (Nat.lt_of_lt_of_le hk h.size) (fun hq => hn (hs k hk hq))).trans (h.block k hk hn)⟩
theorem Fr.trans (h : Fr S w w1) (h' : Fr S w1 w2) : Fr S w w2 := h.trans' h' fun _ _ q => q
theorem Fr.mono (h : Fr S w w1) (hs : ∀ k, k < w.heap.size → S k → S' k) : Fr S' w w1 := ⟨h.os, h.tape, h.output, h.size, fun k hk hn => h.block k hk fun q => hn (hs k hk q)⟩
theorem Fr.drewN (S : Nat → Prop) (w : World) (n : Nat) : Fr S w (w.drewN n) := by
  refine ⟨?_, ?_, ?_, by rw [drewN_heap]; exact Nat.le_refl _, fun _ _ _ => by rw [drewN_heap]⟩
  all_goals (induction n generalizing w <;> simp_all [World.drewN])
theorem Fr.setCell {b off : Nat} {v : Value} (hS : S b) (w : World) : Fr S w (w.setCell ⟨b, off, none⟩ v) :=
  ⟨rfl, rfl, rfl, by rw [size_setCell]; exact Nat.le_refl _, fun k _ hn => heap_setCell_other fun e => hn (e ▸ hS)⟩
theorem Fr.alloc (S : Nat → Prop) (w : World) (ob : Obj) : Fr S w (w.alloc ob) := ⟨rfl, rfl, rfl, by rw [alloc_size]; omega, fun k hk _ => alloc_old w ob k hk⟩
theorem Fr.below {B : Nat} (h : Fr S w w1) (hB : B ≤ w.heap.size) (hS : ∀ k, k < B → ¬ S k) : Below B w w1 := ⟨h.os, h.tape, h.output, h.size, fun k hk => h.block k (by omega) (hS k hk)⟩
theorem Fr.of_below (h : Below w.heap.size w w1) : Fr S w w1 := ⟨h.os, h.tape, h.output, h.size, fun k hk _ => h.block k hk⟩
end
/-- This one block. -/
def On (b k : Nat) : Prop := k = b
theorem fr_set (b off : Nat) (v : Value) (w : World) : Fr (On b) w (w.setCell ⟨b, off, none⟩ v) := Fr.setCell (S := On b) rfl w
/-- Nothing that was there has turned. -/
abbrev Kp (w w' : World) : Prop := Below w.heap.size w w'
theorem kp_drewN (w : World) (q : Nat) : Kp w (w.drewN q) := (Fr.drewN (fun _ => False) w q).below (Nat.le_refl _) fun _ _ h => h
theorem kp_alloc (w : World) (ob : Obj) : Kp w (w.alloc ob) := (Below.refl _ w).alloc (Nat.le_refl _) ob
theorem kp_trans {a b c : World} (h : Kp a b) (k : Kp b c) : Kp a c := h.trans (k.mono h.size)

theorem Fr.new {S : Nat → Prop} {w w1 : World} {n off : Nat} {v : Value} (h : Fr S w w1) (hn : w.heap.size ≤ n) : Fr S w (w1.setCell ⟨n, off, none⟩ v) :=
  ⟨h.os, h.tape, h.output, by rw [size_setCell]; exact h.size, fun k hk hS => by rw [heap_setCell_other (by omega)]; exact h.block k hk hS⟩
theorem Fr.frAlloc {S : Nat → Prop} {w w1 : World} {ob : Obj} (h : Fr S (w.alloc ob) w1) : Fr S w w1 := (Fr.alloc S w ob).trans h
/-- A byte of a text, nought behind its end. -/
def byteAt (s : ByteArray) (k : Nat) : Nat := ((s.data.toList[k]?).map UInt8.toNat).getD 0
theorem byteAt_lt (s : ByteArray) (k : Nat) : byteAt s k < 256 := by
  unfold byteAt
  cases s.data.toList[k]? with
  | none => simp
  | some b => simpa using b.toNat_lt
theorem byteAt_eq (s : ByteArray) (k : Nat) (h : k < s.size) : byteAt s k = (s[k]).toNat := by
  have : s.data.toList[k]? = some (s[k]) := by
    rw [List.getElem?_eq_getElem (by simpa using h)]; rfl
  unfold byteAt; rw [this]; rfl

theorem cell_at {w : World} {b : Nat} {e : TypeId} {cur : Array Value} {fr : Nat × Nat} (hg : w.heap[b]? = some (.cells cur e fr)) (j : Nat) : w.cell? ⟨b, j, none⟩ = cur[j]? := by simp [World.cell?, hg]
theorem kp_cell {w w1 : World} (k : Kp w w1) {a : Addr} {u : Value} (h : w.cell? a = some u) : w1.cell? a = some u := by
  rw [World.cell?_of_block (k.block _ ?_)]
  · exact h
  · rcases Nat.lt_or_ge a.block w.heap.size with q | q
    · exact q
    · simp [World.cell?, Array.getElem?_eq_none q] at h
theorem addr_add (g j : Nat) : (⟨g, 0, none⟩ : Addr).add j = ⟨g, j, none⟩ := by unfold Addr.add; split <;> simp_all
theorem kp_drew_size (w : World) : w.drew.heap.size = w.heap.size := rfl
theorem kp_drew (w : World) : Kp w w.drew := kp_drewN w 1
section
variable {w w1 : World} {B : Nat} {v : Value}
theorem row_kp {e : TypeId} {size n : Nat} {xs : List Value} (hr : w.ownsRow B e size v n xs) (h : Kp w w1) : w1.ownsRow B e size v n xs := by
  refine ⟨hr.1, ?_⟩
  rcases hr.2 with q | ⟨b, cap, cur, rfl, hb, hg, rest⟩
  · exact .inl q
  · exact .inr ⟨b, cap, cur, rfl, hb, by rw [h.block b (hr.lt b rfl).2]; exact hg, rest⟩
theorem row_fr {e : TypeId} {size n : Nat} {xs : List Value} {S : Nat → Prop} (hr : w.ownsRow B e size v n xs) (h : Fr S w w1) (hn : ∀ j, v.ownBlock = some j → ¬ S j) : w1.ownsRow B e size v n xs := by
  refine ⟨hr.1, ?_⟩
  rcases hr.2 with q | ⟨b, cap, cur, rfl, hb, hg, rest⟩
  · exact .inl q
  · exact .inr ⟨b, cap, cur, rfl, hb, by rw [h.block b (hr.lt b rfl).2 (hn b rfl)]; exact hg, rest⟩
theorem row_lift {e : TypeId} {B' size n : Nat} {xs : List Value} (hr : w.ownsRow B e size v n xs) (h : ∀ j, v.ownBlock = some j → B' ≤ j) : w.ownsRow B' e size v n xs := by
  refine ⟨hr.1, ?_⟩
  rcases hr.2 with q | ⟨b, cap, cur, rfl, hb, hg, rest⟩
  · exact .inl q
  · exact .inr ⟨b, cap, cur, rfl, h b rfl, hg, rest⟩
theorem owns_form {size n : Nat} {e : TypeId} {xs : List Value} (h : w.ownsRow B e size v n xs) : ∃ a cap, v = .slice a n cap ∧ n ≤ cap ∧ cap ≤ maxLen := by
  rcases h.2 with ⟨rfl, rfl⟩ | ⟨b, cap, cur, rfl, _, _, h1, h2, _⟩
  · exact ⟨none, 0, rfl, Nat.le_refl _, by simp [maxLen]⟩
  · exact ⟨_, cap, rfl, h1, h2⟩
end
theorem info_parts {t : TypeId} {z : Option Value} {a b : Nat} (h : (Tryz.prog.info? t).map (fun i => (i.zero, i.size, i.bytes)) = some (z, a, b)) : ∃ i, Tryz.prog.info? t = some i ∧ i.zero = z ∧ i.size = a ∧ i.bytes = b := by
  obtain ⟨i, h1, h2⟩ := Option.map_eq_some_iff.1 h
  simp only [Prod.mk.injEq] at h2
  exact ⟨i, h1, h2.1, h2.2.1, h2.2.2⟩
theorem infoUB : (Tryz.prog.info? 5).map (fun i => (i.zero, i.size, i.bytes)) = some (some (.int .u8 0), 1, 1) := by kernel_rfl
def Lc (T : TypeId) (b : Nat) (l : List Value) (w : World) : Prop := w.heap[b]? = some (.cells l.toArray T (0, 0))
section
variable {T : TypeId} {b : Nat} {l : List Value} {w w1 : World}
theorem Lc.lt (h : Lc T b l w) : b < w.heap.size := (Array.getElem?_eq_some_iff.1 h).1
theorem Lc.cell (h : Lc T b l w) (j : Nat) : w.cell? ⟨b, j, none⟩ = l[j]? := by rw [cell_at h]; exact List.getElem?_toArray
theorem Lc.at (h : Lc T b l w) {j : Nat} {v : Value} (hj : l[j]? = some v) : w.cell? ⟨b, j, none⟩ = some v := by rw [h.cell, hj]
theorem Lc.fz (h : Lc T b l w) (j : Nat) : w.frozen? ⟨b, j, none⟩ = false := by unfold Lc at h; simp [World.frozen?, h]
theorem Lc.new (w : World) (l : List Value) (T : TypeId) : Lc T w.heap.size l (w.alloc (.cells l.toArray T)) := alloc_new w _
theorem Lc.heap (h : Lc T b l w) (he : w1.heap[b]? = w.heap[b]?) : Lc T b l w1 := by unfold Lc at h ⊢; rw [he]; exact h
theorem Lc.kp (h : Lc T b l w) (k : Kp w w1) : Lc T b l w1 := h.heap (k.block b h.lt)
theorem Lc.fr {S : Nat → Prop} (h : Lc T b l w) (k : Fr S w w1) (hn : ¬ S b) : Lc T b l w1 := h.heap (k.block b h.lt hn)
theorem Lc.set (h : Lc T b l w) (j : Nat) (v : Value) : Lc T b (l.set j v) (w.setCell ⟨b, j, none⟩ v) := by
  unfold Lc at h ⊢; rw [heap_setCell h, List.setIfInBounds_toArray]
theorem Lc.other (h : Lc T b l w) {n off : Nat} {v : Value} (hn : n ≠ b) : Lc T b l (w.setCell ⟨n, off, none⟩ v) := h.heap (heap_setCell_other (Ne.symm hn))
theorem kp_new {w0 : World} (k : Kp w0 w) {n off : Nat} {v : Value} (hn : w0.heap.size ≤ n) : Kp w0 (w.setCell ⟨n, off, none⟩ v) :=
  ⟨k.os, k.tape, k.output, by rw [size_setCell]; exact k.size, fun j hj => by rw [heap_setCell_other (by omega)]; exact k.block j hj⟩
theorem kp_more {w0 : World} (k : Kp w0 w) (o : Obj) : Kp w0 (w.alloc o) := kp_trans k (kp_alloc _ _)
end
/-- A list's elements from a place on are these. -/
def sets (l : List Value) : Nat → List Value → List Value
  | _, [] => l
  | o, v :: r => sets (l.set o v) (o + 1) r
section
variable {T : TypeId} {b : Nat} {l : List Value} {w w1 : World}
theorem Lc.sets : ∀ {l : List Value} {w : World} (vs : List Value) (o : Nat), Lc T b l w → Lc T b (sets l o vs) (w.setCells b o vs)
  | l, w, [], o, h => h
  | l, w, v :: r, o, h => Lc.sets r (o + 1) (h.set o v)
theorem fr_sets (b : Nat) : ∀ (vs : List Value) (o : Nat) (w : World), Fr (On b) w (w.setCells b o vs)
  | [], o, w => Fr.refl _ _
  | v :: r, o, w => (fr_set b o v w).trans (fr_sets b r (o + 1) _)
theorem size_sets (b : Nat) : ∀ (vs : List Value) (o : Nat) (w : World), (w.setCells b o vs).heap.size = w.heap.size
  | [], o, w => rfl
  | v :: r, o, w => (size_sets b r (o + 1) _).trans (size_setCell _ _ _)
theorem Lc.range (h : Lc T b l w) (o : Nat) {cs : List Value} (hc : ∀ j v, cs[j]? = some v → l[o + j]? = some v) : w.rangeAt b o cs := fun j v hj => h.at (hc j v hj)
theorem Lc.there (h : Lc T b l w) {o n : Nat} (hn : o + n ≤ l.length) : w.there b o n := fun j hj => ⟨by rw [h.cell, List.getElem?_eq_getElem (by omega)]; rfl, h.fz _⟩
variable {ops : Array Oper} {rest : List Oper} {op : Oper} {a : Act} {Q : Exit → Act → World → Prop}
theorem wpList_load_box (h : Lc T b l w) (o : Nat) (cs : List Value) (hgd : op.guard = none) (ty : TypeId) (x : Operand) (ho : op.op = .load ty x) (hx : a.eval x = .pointer (some ⟨b, o, none⟩)) (hc : (l.drop o).take cs.length = cs)
    (d : TypeDesc) (hu : Tryz.prog.underlying ty = some d) (hd : d.isRow = true) (hi : (Tryz.prog.info? ty).map (·.size) = some cs.length)
    (k : wpList Tryz.prog ops Q rest (a.put op.dst (.agg cs.toArray)) w) : wpList Tryz.prog ops Q (op :: rest) a w := by
  refine wpList_load_mid hgd ty x ho b o hx cs d (h.range o fun j v hj => ?_) hu hd hi k
  have hl := (List.getElem?_eq_some_iff.1 hj).1
  rw [← hc, List.getElem?_take_of_lt hl, List.getElem?_drop] at hj
  exact hj
theorem wpList_store_box (h : Lc T b l w) (o : Nat) (cs : List Value) (hgd : op.guard = none) (ty : TypeId) (x y : Operand) (ho : op.op = .store ty x y) (hx : a.eval x = .pointer (some ⟨b, o, none⟩)) (hy : a.eval y = .agg cs.toArray)
    (hf : o + cs.length ≤ l.length) (hi : (Tryz.prog.info? ty).map (·.size) = some cs.length) (h1 : ∀ v ∈ cs, v.oneCell' = true) {l' : List Value} (hl : Go.Proofs.YtaefeakmlgjonaaGreat.sets l o cs = l')
    (k : ∀ w', Lc T b l' w' → Fr (On b) w w' → w'.heap.size = w.heap.size → wpList Tryz.prog ops Q rest (a.put op.dst undef) w') : wpList Tryz.prog ops Q (op :: rest) a w := by
  refine wpList_store_mid hgd ty x y ho b o cs.toArray hx hy ?_ (by simpa using hi) (all_oneCell_toArray h1) ?_
  · have : cs.toArray.size = cs.length := by simp
    rw [this]; exact h.there hf
  · have e : cs.toArray.toList = cs := by simp
    rw [e]
    exact k _ (hl ▸ h.sets cs o) (fr_sets _ _ _ _) (size_sets _ _ _ _)
theorem results_box1 {fn : Func} {t : Tmp} {ty : TypeId} (hr : fn.results = #[.cell t ty]) {tmps : Array Value} (hp : tmps.getD t undef = .pointer (some ⟨b, 0, none⟩)) (h : Lc T b l w)
    {d : TypeDesc} (hu : Tryz.prog.underlying ty = some d) (hd : d.isRow = true) (hi : (Tryz.prog.info? ty).map (·.size) = some l.length) :
    (results fn tmps).run Tryz.prog w = .ok (.agg l.toArray) w := by
  have := run_loadVar_mid (P := Tryz.prog) w b 0 ty l d (h.range 0 fun j v hj => by rw [Nat.zero_add]; exact hj) hu hd hi
  rw [Array.getD_eq_getD_getElem?] at hp
  simp [results, hr, hp, asAddr, this]
theorem results_box2 {fn : Func} {t u : Tmp} {ty : TypeId} (hr : fn.results = #[.cell t ty, .tmp u]) {tmps : Array Value} (hp : tmps.getD t undef = .pointer (some ⟨b, 0, none⟩)) (h : Lc T b l w)
    {d : TypeDesc} (hu : Tryz.prog.underlying ty = some d) (hd : d.isRow = true) (hi : (Tryz.prog.info? ty).map (·.size) = some l.length) :
    (results fn tmps).run Tryz.prog w = .ok (.tuple #[.agg l.toArray, tmps.getD u undef]) w := by
  have := run_loadVar_mid (P := Tryz.prog) w b 0 ty l d (h.range 0 fun j v hj => by rw [Nat.zero_add]; exact hj) hu hd hi
  rw [Array.getD_eq_getD_getElem?] at hp
  simp [results, hr, hp, asAddr, this]
theorem results_box3 {fn : Func} {t u v : Tmp} {ty : TypeId} (hr : fn.results = #[.cell t ty, .tmp u, .tmp v]) {tmps : Array Value} (hp : tmps.getD t undef = .pointer (some ⟨b, 0, none⟩)) (h : Lc T b l w)
    {d : TypeDesc} (hu : Tryz.prog.underlying ty = some d) (hd : d.isRow = true) (hi : (Tryz.prog.info? ty).map (·.size) = some l.length) :
    (results fn tmps).run Tryz.prog w = .ok (.tuple #[.agg l.toArray, tmps.getD u undef, tmps.getD v undef]) w := by
  have := run_loadVar_mid (P := Tryz.prog) w b 0 ty l d (h.range 0 fun j v hj => by rw [Nat.zero_add]; exact hj) hu hd hi
  rw [Array.getD_eq_getD_getElem?] at hp
  simp [results, hr, hp, asAddr, this]
end
section
variable {w w1 : World} {u u' : Value} {T T' : TypeId} {m m' : Nat} {l l' : List Value}
theorem row_ne {B n size : Nat} {e : TypeId} {xs : List Value} (hr : w.ownsRow B e size u n xs) (hm : Lc T m l w) (hT : T ≠ e) : u.ownBlock ≠ some m := by
  intro q
  rcases hr.2 with ⟨z, _⟩ | ⟨b, cap, cur, z, hb, hg, _⟩
  · rw [z] at q; cases q
  · rw [z] at q
    simp only [Value.ownBlock, Option.some.injEq] at q
    subst q
    unfold Lc at hm
    rw [hm] at hg
    injection hg with hg
    injection hg with _ hg
    exact hT hg
theorem row_row {B n size B' n' size' : Nat} {e e' : TypeId} {xs xs' : List Value} (hr : w.ownsRow B e size u n xs) (hr' : w.ownsRow B' e' size' u' n' xs') (hT : e ≠ e') : ∀ j, u.ownBlock = some j → u'.ownBlock ≠ some j := by
  intro j q q'
  rcases hr.2 with ⟨z, _⟩ | ⟨b, cap, cur, z, hb, hg, _⟩
  · rw [z] at q; cases q
  rcases hr'.2 with ⟨z', _⟩ | ⟨b', cap', cur', z', hb', hg', _⟩
  · rw [z'] at q'; cases q'
  rw [z] at q
  rw [z'] at q'
  simp only [Value.ownBlock, Option.some.injEq] at q q'
  subst q
  subst q'
  rw [hg] at hg'
  injection hg' with hg'
  injection hg' with _ hg'
  exact hT hg'
theorem lc_ne (h : Lc T m l w) (h' : Lc T' m' l' w) (hT : T ≠ T') : m ≠ m' := by
  rintro rfl
  unfold Lc at h h'
  rw [h] at h'
  injection h' with h'
  injection h' with _ h'
  exact hT h'
end
/-- Bytes as they lie in memory. -/
def bcs (l : List UInt8) : List Value := l.map fun b => Value.int .u8 b.toNat
theorem bcs_len (l : List UInt8) : (bcs l).length = l.length := by simp [bcs]
theorem bcs_append (a b : List UInt8) : bcs (a ++ b) = bcs a ++ bcs b := by simp [bcs]
theorem bcs_one (l : List UInt8) : ∀ u ∈ bcs l, u.oneCell' = true := fun u hu => by
  obtain ⟨b, _, rfl⟩ := List.mem_map.1 hu
  rfl
theorem drop_at {S : ByteArray} {i : Nat} (h : i < S.size) : S.data.toList.drop i = S[i] :: S.data.toList.drop (i + 1) := by
  rw [List.drop_eq_getElem_cons (by simpa using h)]
  rfl
end Go.Proofs.YtaefeakmlgjonaaGreat
/- A map whose keys are integers, as a function from an integer to what stands at it; a range over one that is under way. -/
namespace Go.Proofs.YtaefeakmlgjonaaGreat
open Go.ChangeShapes Go.WideShapes Go.ChangeAt Go.RowKit Go.Maps Go.MapKept
open Go.ChangeMaps (setBlock heap_setBlock_same heap_setBlock_other modify_eq_set)
set_option linter.unusedVariables false
set_option linter.unusedSimpArgs false
theorem keyI : Keyed Tryz.prog 3 := int_keyed Tryz.underlying3
theorem keyB {x : Int} (h0 : -9223372036854775808 ≤ x) (h1 : x < 9223372036854775808) : keyOf Tryz.prog 3 (.int .i64 x) = some (.int .i64 x) :=
  keyOf_int_mk Tryz.underlying3 (by
    show (decide (IntKind.i64.min ≤ x) && decide (x ≤ IntKind.i64.max)) = true
    have e1 : IntKind.i64.min = -9223372036854775808 := by decide
    have e2 : IntKind.i64.max = 9223372036854775807 := by decide
    rw [e1, e2, Bool.and_eq_true, decide_eq_true_eq, decide_eq_true_eq]; omega)
/-- The entries say f. -/
structure Hld (es : Array MapEntry) (f : Int → Option Value) : Prop where
  on : ∀ e ∈ es.toList, ∃ x, e.key = .int .i64 x ∧ -9223372036854775808 ≤ x ∧ x < 9223372036854775808 ∧ f x = some e.val
  at_ : ∀ x v, f x = some v → ∃ e ∈ es.toList, e.key = .int .i64 x ∧ e.val = v
/-- At block b lies a map that says f. -/
def Mp (b : Nat) (f : Int → Option Value) (w : World) : Prop := ∃ es clock, w.heap[b]? = some (.map es clock) ∧ Stamped es clock ∧ Hld es f
def upd (f : Int → Option Value) (x : Int) (v : Option Value) : Int → Option Value := fun y => if y = x then v else f y
section
variable {b r : Nat} {f : Int → Option Value} {w w1 : World}
theorem Mp.lt (h : Mp b f w) : b < w.heap.size := by obtain ⟨es, c, h, _⟩ := h; exact (Array.getElem?_eq_some_iff.1 h).1
theorem Mp.heap (h : Mp b f w) (he : w1.heap[b]? = w.heap[b]?) : Mp b f w1 := by obtain ⟨es, c, h, r⟩ := h; exact ⟨es, c, he.trans h, r⟩
theorem Mp.kp (h : Mp b f w) (k : Kp w w1) : Mp b f w1 := h.heap (k.block b h.lt)
theorem Mp.fr {S : Nat → Prop} (h : Mp b f w) (k : Fr S w w1) (hn : ¬ S b) : Mp b f w1 := h.heap (k.block b h.lt hn)
theorem Mp.ne {T : TypeId} {t : Nat} {l : List Value} (h : Mp b f w) (k : Lc T t l w) : t ≠ b := by
  rintro rfl; obtain ⟨es, c, h, _⟩ := h; unfold Lc at k; rw [k] at h; cases h
theorem Mp.range (h : Mp b f w) {x : Int} {v : Value} (hx : f x = some v) : -9223372036854775808 ≤ x ∧ x < 9223372036854775808 := by
  obtain ⟨es, c, _, _, H⟩ := h
  obtain ⟨e, he, hk, _⟩ := H.at_ x v hx
  obtain ⟨y, hy, h0, h1, _⟩ := H.on e he
  rw [hk] at hy; cases hy; exact ⟨h0, h1⟩
theorem Hld.one {es : Array MapEntry} {clock : Nat} (H : Hld es f) (S : Stamped es clock) {e e' : MapEntry} (h : e ∈ es.toList) (h' : e' ∈ es.toList) (hk : e.key = e'.key) : e = e' := entry_eq_of_key ((stamped_iff es clock).1 S).2.2 h h' hk
theorem at_key {es : Array MapEntry} {c : Nat} (S : Stamped es c) {i j : Nat} {e e' : MapEntry} (hi : es.toList[i]? = some e) (hj : es.toList[j]? = some e') (hk : e.key = e'.key) : i = j := by
  have hp := ((stamped_iff es c).1 S).2.2
  rw [List.pairwise_iff_getElem] at hp
  obtain ⟨li, rfl⟩ := List.getElem?_eq_some_iff.1 hi
  obtain ⟨lj, rfl⟩ := List.getElem?_eq_some_iff.1 hj
  rcases Nat.lt_trichotomy i j with q | q | q
  · exact absurd hk (hp i j li lj q)
  · exact q
  · exact absurd hk.symm (hp j i lj li q)
theorem Hld.keys {es : Array MapEntry} (H : Hld es f) : ∀ e ∈ es.toList, ∃ l, keyOf Tryz.prog 3 e.key = some l := fun e he => by
  obtain ⟨x, hx, h0, h1, _⟩ := H.on e he
  exact ⟨_, by rw [hx]; exact keyB h0 h1⟩
theorem fr_block (w : World) (b : Nat) (o : Obj) (hb : b < w.heap.size) : Fr (On b) w (setBlock w b o) :=
  ⟨rfl, rfl, rfl, by simp [setBlock], fun k hk hn => by unfold On at hn; simp [setBlock, Array.getElem?_setIfInBounds, Ne.symm hn]⟩
/-- Looked up. -/
theorem Mp.look (h : Mp b f w) {x : Int} (h0 : -9223372036854775808 ≤ x) (h1 : x < 9223372036854775808) {t e : TypeId} (ht : Tryz.prog.underlying t = some (.map 3 e)) {z : Value} (hz : (zeroValue e).run Tryz.prog w = .ok z w) (ok : Bool) :
    (Instr.lookup t (.map (some b)) (.int .i64 x) ok).run Tryz.prog w = .ok (if ok then .tuple #[(f x).getD z, .bool (f x).isSome] else (f x).getD z) w := by
  obtain ⟨es, c, hb, S, H⟩ := h
  rcases keyI.find w (keyB h0 h1) es.toList H.keys with ⟨h2, h3⟩ | ⟨j, e0, h2, h3, h4⟩
  · have hn : f x = none := by
      cases q : f x with
      | none => rfl
      | some v => obtain ⟨e, he, hk, _⟩ := H.at_ x v q; exact absurd hk (h3 e he)
    simp [Instr.lookup, run_underlying ht, MapKept.run_getObj_map hb, keyI.check w _ (keyB h0 h1), h2, hz, Result.andThen, hn]
  · have hs : f x = some e0.val := by
      obtain ⟨y, hy, _, _, hv⟩ := H.on e0 (List.mem_of_getElem? h3)
      rw [h4] at hy; cases hy; exact hv
    simp [Instr.lookup, run_underlying ht, MapKept.run_getObj_map hb, keyI.check w _ (keyB h0 h1), h2, Result.andThen, hs]
/-- Stored: the entries behind it, and what has become of each. -/
theorem store_who {es : Array MapEntry} {c : Nat} (hb : w.heap[b]? = some (.map es c)) (S : Stamped es c) (H : Hld es f) {x : Int} (h0 : -9223372036854775808 ≤ x) (h1 : x < 9223372036854775808) {t e : TypeId} (ht : Tryz.prog.underlying t = some (.map 3 e)) (v : Value) :
    ∃ es' c', (Instr.mapUpdate t (.map (some b)) (.int .i64 x) v).run Tryz.prog w = .ok () (setBlock w b (.map es' c')) ∧ Stamped es' c' ∧ Hld es' (upd f x (some v)) ∧
      (f x ≠ none → c' = c ∧ es'.toList.map (·.born) = es.toList.map (·.born) ∧ es'.toList.map (·.key) = es.toList.map (·.key)) := by
  rcases keyI.find w (keyB h0 h1) es.toList H.keys with ⟨h2, h3⟩ | ⟨j, e0, h2, h3, h4⟩
  · refine ⟨es.push ⟨.int .i64 x, v, c⟩, c + 1, ?_, stamped_push S h3, ⟨fun e he => ?_, fun y u hy => ?_⟩, fun hn => ?_⟩
    · simp [Instr.mapUpdate, run_underlying ht, MapKept.run_getObj_map hb, keyI.check w false (keyB h0 h1), h2, MapKept.run_setObj_map _ hb, Result.andThen, setBlock]
    · simp only [Array.toList_push, List.mem_append, List.mem_singleton] at he
      rcases he with he | rfl
      · obtain ⟨y, hy, y0, y1, hv⟩ := H.on e he
        have : y ≠ x := fun q => h3 e he (by rw [hy, q])
        exact ⟨y, hy, y0, y1, by unfold upd; rw [if_neg this]; exact hv⟩
      · exact ⟨x, rfl, h0, h1, by unfold upd; rw [if_pos rfl]⟩
    · unfold upd at hy
      split at hy
      · rename_i q; subst q; cases hy
        exact ⟨⟨.int .i64 y, v, c⟩, by simp, rfl, rfl⟩
      · obtain ⟨e, he, r⟩ := H.at_ y u hy
        exact ⟨e, by simp [he], r⟩
    · exfalso
      cases q : f x with
      | none => exact hn q
      | some u => obtain ⟨e, he, hk, _⟩ := H.at_ x u q; exact h3 e he hk
  · have hj : es[j]? = some e0 := by simpa using h3
    have hjl : j < es.toList.length := (List.getElem?_eq_some_iff.1 h3).1
    have hm0 : e0 ∈ es.toList := List.mem_of_getElem? h3
    have hlist : (es.modify j (fun e' => { e' with key := .int .i64 x, val := v })).toList = es.toList.set j { e0 with key := .int .i64 x, val := v } := by rw [Array.toList_modify, modify_eq_set _ _ _ _ h3]
    refine ⟨es.modify j (fun e' => { e' with key := .int .i64 x, val := v }), c, ?_, stamped_modify S j _ (fun _ _ => rfl) (fun e' _ he' => by rw [hj] at he'; cases he'; exact h4.symm), ⟨fun e he => ?_, fun y u hy => ?_⟩, fun _ => ⟨rfl, ?_, ?_⟩⟩
    · have hk : (Instr.keyThatStays e0.key (.int .i64 x)).run Tryz.prog w = .ok (.int .i64 x) w := by rw [h4]; exact keyI.stays w (keyB h0 h1)
      simp [Instr.mapUpdate, run_underlying ht, MapKept.run_getObj_map hb, keyI.check w false (keyB h0 h1), h2, hj, hk, MapKept.run_setObj_map _ hb, Result.andThen, setBlock]
    · rw [hlist] at he
      obtain ⟨i, hi⟩ := List.getElem?_of_mem he
      by_cases q : i = j
      · subst q
        rw [List.getElem?_set_self hjl] at hi
        cases hi
        exact ⟨x, rfl, h0, h1, by unfold upd; rw [if_pos rfl]⟩
      · rw [List.getElem?_set_ne (Ne.symm q)] at hi
        obtain ⟨y, hy, y0, y1, hv⟩ := H.on e (List.mem_of_getElem? hi)
        have : y ≠ x := fun p => q (at_key S hi h3 (by rw [hy, h4, p]))
        exact ⟨y, hy, y0, y1, by unfold upd; rw [if_neg this]; exact hv⟩
    · rw [hlist]
      unfold upd at hy
      split at hy
      · rename_i q; subst q; cases hy
        exact ⟨{ e0 with key := .int .i64 y, val := v }, List.mem_of_getElem? (List.getElem?_set_self hjl), rfl, rfl⟩
      · rename_i q
        obtain ⟨e, he, hk, hu⟩ := H.at_ y u hy
        obtain ⟨i, hi⟩ := List.getElem?_of_mem he
        have hij : i ≠ j := fun p => by
          subst p; rw [h3] at hi; cases hi; rw [h4] at hk; cases hk; exact q rfl
        exact ⟨e, List.mem_of_getElem? (by rw [List.getElem?_set_ne (Ne.symm hij)]; exact hi), hk, hu⟩
    · rw [hlist, List.map_set]
      refine List.ext_getElem? fun i => ?_
      by_cases q : i = j
      · subst q; rw [List.getElem?_set_self (by simpa using hjl), List.getElem?_map, h3]; rfl
      · rw [List.getElem?_set_ne (Ne.symm q)]
    · rw [hlist, List.map_set]
      refine List.ext_getElem? fun i => ?_
      by_cases q : i = j
      · subst q; rw [List.getElem?_set_self (by simpa using hjl), List.getElem?_map, h3, Option.map_some, h4]
      · rw [List.getElem?_set_ne (Ne.symm q)]
/-- Stored. -/
theorem Mp.store (h : Mp b f w) {x : Int} (h0 : -9223372036854775808 ≤ x) (h1 : x < 9223372036854775808) {t e : TypeId} (ht : Tryz.prog.underlying t = some (.map 3 e)) (v : Value) :
    ∃ w', (Instr.mapUpdate t (.map (some b)) (.int .i64 x) v).run Tryz.prog w = .ok () w' ∧ Mp b (upd f x (some v)) w' ∧ Fr (On b) w w' ∧ w'.heap.size = w.heap.size := by
  have hl := h.lt
  obtain ⟨es, c, hb, S, H⟩ := h
  obtain ⟨es', c', hr, S', H', _⟩ := store_who hb S H h0 h1 ht v
  exact ⟨_, hr, ⟨es', c', heap_setBlock_same hb _, S', H'⟩, fr_block w b _ hl, by simp [setBlock]⟩
/-- Taken out: who is left. -/
theorem drop_who {es : Array MapEntry} {c : Nat} (hb : w.heap[b]? = some (.map es c)) (S : Stamped es c) (H : Hld es f) {x : Int} (h0 : -9223372036854775808 ≤ x) (h1 : x < 9223372036854775808) {t e ty : TypeId} (ht : Tryz.prog.underlying t = some (.map 3 e)) :
    ∃ es', (Builtin.delete_ #[t, 3] ty #[.map (some b), .int .i64 x]).run Tryz.prog w = .ok (.tuple #[]) (setBlock w b (.map es' c)) ∧ Stamped es' c ∧ Hld es' (upd f x none) ∧ es'.toList.Sublist es.toList := by
  rcases keyI.find w (keyB h0 h1) es.toList H.keys with ⟨h2, h3⟩ | ⟨j, e0, h2, h3, h4⟩
  · refine ⟨es, ?_, S, ⟨fun e he => ?_, fun y u hy => ?_⟩, List.Sublist.refl _⟩
    · simp [Builtin.delete_, run_underlying ht, MapKept.run_getObj_map hb, keyI.check w _ (keyB h0 h1), h2, MapKept.run_setObj_map _ hb, Result.andThen, setBlock]
    · obtain ⟨y, hy, y0, y1, hv⟩ := H.on e he
      have : y ≠ x := fun q => h3 e he (by rw [hy, q])
      exact ⟨y, hy, y0, y1, by unfold upd; rw [if_neg this]; exact hv⟩
    · unfold upd at hy
      split at hy
      · cases hy
      · exact H.at_ y u hy
  · have hjl : j < es.toList.length := (List.getElem?_eq_some_iff.1 h3).1
    have hjs : j < es.size := by simpa using hjl
    have hsub : (es.eraseIdxIfInBounds j).toList = es.toList.eraseIdx j := by
      unfold Array.eraseIdxIfInBounds
      rw [dif_pos hjs]
      simp
    refine ⟨es.eraseIdxIfInBounds j, ?_, stamped_erase S j, ⟨fun e he => ?_, fun y u hy => ?_⟩, by rw [hsub]; exact List.eraseIdx_sublist _ _⟩
    · simp [Builtin.delete_, run_underlying ht, MapKept.run_getObj_map hb, keyI.check w _ (keyB h0 h1), h2, MapKept.run_setObj_map _ hb, Result.andThen, setBlock]
    · rw [hsub, List.mem_eraseIdx_iff_getElem?] at he
      obtain ⟨i, hne, hi⟩ := he
      obtain ⟨y, hy, y0, y1, hv⟩ := H.on e (List.mem_of_getElem? hi)
      have : y ≠ x := fun p => hne (at_key S hi h3 (by rw [hy, h4, p]))
      exact ⟨y, hy, y0, y1, by unfold upd; rw [if_neg this]; exact hv⟩
    · unfold upd at hy
      split at hy
      · cases hy
      · rename_i q
        obtain ⟨e, he, hk, hu⟩ := H.at_ y u hy
        obtain ⟨i, hi⟩ := List.getElem?_of_mem he
        have hij : i ≠ j := fun p => by
          subst p; rw [h3] at hi; cases hi; rw [h4] at hk; cases hk; exact q rfl
        exact ⟨e, by rw [hsub, List.mem_eraseIdx_iff_getElem?]; exact ⟨i, hij, hi⟩, hk, hu⟩
/-- A range over the map at b is under way, its iterator at r: 'left' are the keys that are still to come, c of them. -/
def Rgg (b r : Nat) (f : Int → Option Value) (left : Int → Bool) (c : Nat) (w : World) : Prop :=
  ∃ es clock since seen c0, w.heap[b]? = some (.map es clock) ∧ Stamped es clock ∧ Hld es f ∧ w.heap[r]? = some (.mapIter (some b) since seen c0) ∧ (∀ x ∈ es.toList, x.born < since) ∧ (leftOf es seen).size = c ∧
    (∀ e ∈ es.toList, ∀ x, e.key = .int .i64 x → left x = !seen.contains e.born) ∧ (∀ x, left x = true → f x ≠ none) ∧ since ≤ c0 ∧ since ≤ clock
variable {left : Int → Bool} {c : Nat}
theorem Rgg.map (h : Rgg b r f left c w) : Mp b f w := by obtain ⟨es, cl, _, _, _, hb, S, H, _⟩ := h; exact ⟨es, cl, hb, S, H⟩
theorem Rgg.ne (h : Rgg b r f left c w) : r ≠ b := by
  obtain ⟨es, cl, s, q, c0, hb, _, _, hr, _⟩ := h
  intro e; rw [e, hb] at hr; cases hr
theorem Rgg.lt (h : Rgg b r f left c w) : r < w.heap.size := by obtain ⟨es, cl, s, q, c0, hb, _, _, hr, _⟩ := h; exact (Array.getElem?_eq_some_iff.1 hr).1
theorem Rgg.heap (h : Rgg b r f left c w) (hb : w1.heap[b]? = w.heap[b]?) (hr : w1.heap[r]? = w.heap[r]?) : Rgg b r f left c w1 := by
  obtain ⟨es, cl, s, q, c0, h1, h2, h3, h4, rest⟩ := h
  exact ⟨es, cl, s, q, c0, hb.trans h1, h2, h3, hr.trans h4, rest⟩
theorem Rgg.kp (h : Rgg b r f left c w) (k : Kp w w1) : Rgg b r f left c w1 := h.heap (k.block b h.map.lt) (k.block r h.lt)
theorem Rgg.left_eq (h : Rgg b r f left c w) : w.rangeLeft b r = c := by
  obtain ⟨es, cl, s, q, c0, hb, _, _, hr, _, hc, _⟩ := h
  simp only [World.rangeLeft, hb, hr]
  exact hc
/-- A range begins. -/
theorem Mp.ranged (h : Mp b f w) {t e : TypeId} (ht : Tryz.prog.underlying t = some (.map 3 e)) :
    ∃ w' c, (Instr.range t (.map (some b))).run Tryz.prog w = .ok (.pointer (some ⟨w.heap.size, 0, none⟩)) w' ∧ Rgg b w.heap.size f (fun x => (f x).isSome) c w' ∧ Kp w w' ∧ w'.heap.size = w.heap.size + 1 := by
  have hlt := h.lt
  obtain ⟨es, cl, hb, S, H⟩ := h
  refine ⟨_, _, run_range_map w t 3 e b es cl ht hb, ⟨es, cl, cl, #[], cl, (alloc_old _ _ b hlt).trans hb, S, H, alloc_new _ _, ((stamped_iff es cl).1 S).1, rfl, fun e he x hx => ?_, fun x hx => ?_, Nat.le_refl _, Nat.le_refl _⟩, kp_alloc _ _, by rw [alloc_size]⟩
  · obtain ⟨y, hy, _, _, hv⟩ := H.on e he
    rw [hx] at hy; cases hy
    simp [hv]
  · intro q; simp [q] at hx
/-- One more comes, or none is left. -/
theorem Rgg.next (h : Rgg b r f left c w) (ty : TypeId) :
    ((∀ x, left x = false) ∧ (Instr.next (.pointer (some ⟨r, 0, none⟩)) false ty).run Tryz.prog w = .ok (.tuple #[.bool false]) w) ∨
    ∃ x v w' c', -9223372036854775808 ≤ x ∧ x < 9223372036854775808 ∧ left x = true ∧ f x = some v ∧ (Instr.next (.pointer (some ⟨r, 0, none⟩)) false ty).run Tryz.prog w = .ok (.tuple #[.bool true, .int .i64 x, v]) w' ∧
      Rgg b r f (fun y => left y && !decide (y = x)) c' w' ∧ c' < c ∧ Fr (On r) w w' ∧ w'.heap.size = w.heap.size ∧ (Instr.entry (.pointer (some ⟨r, 0, none⟩))).run Tryz.prog w' = .ok (.tuple #[.int .i64 x, v]) w' := by
  have hne := h.ne
  have hrl := h.lt
  obtain ⟨es, cl, since, seen, c0, hb, S, H, hr, hold, rfl, hl1, hl2, hsc, hsk⟩ := h
  rcases run_next_at (P := Tryz.prog) w ty r b since c0 seen es cl hr hb hold hsc with ⟨h0, hrun⟩ | ⟨e, he, w1, hal, hrun⟩
  · refine Or.inl ⟨fun x => ?_, hrun⟩
    cases hx : left x with
    | false => rfl
    | true =>
      cases q : f x with
      | none => exact absurd q (hl2 x hx)
      | some v =>
        obtain ⟨e, he, hk, _⟩ := H.at_ x v q
        rw [hl1 e he x hk, all_seen es seen h0 e he] at hx; cases hx
  · obtain ⟨hem, hes⟩ := mem_left he
    obtain ⟨x, hx, x0, x1, hv⟩ := H.on e hem
    have hr1 : w1.heap[r]? = some (.mapIter (some b) since seen c0) := by rcases hal with rfl | rfl <;> exact hr
    have hb1 : w1.heap[b]? = some (.map es cl) := by rcases hal with rfl | rfl <;> exact hb
    have hset := heap_set (o' := .mapIter (some b) since (seen.push e.born) cl) hr1
    have hb' : (setBlock w1 r (.mapIter (some b) since (seen.push e.born) cl)).heap[b]? = some (.map es cl) := (hset.2 b (fun e1 => hne e1.symm)).trans hb1
    rw [hx] at hrun
    refine Or.inr ⟨x, e.val, _, _, x0, x1, by rw [hl1 e hem x hx, hes]; rfl, hv, hrun, ⟨es, cl, since, seen.push e.born, cl, hb', S, H, hset.1, hold, rfl, fun e' he' y hy => ?_, fun y hy => hl2 y (by simp at hy; exact hy.1), hsk, hsk⟩, left_shrinks es seen e he, ?_, ?_, ?_⟩
    · show (left y && !decide (y = x)) = _
      rw [hl1 e' he' y hy, contains_push]
      by_cases q : y = x
      · subst q
        obtain rfl := H.one S he' hem (by rw [hy, hx])
        simp
      · have : (e'.born == e.born) = false := by
          simp only [beq_eq_false_iff_ne]
          intro p
          obtain rfl := born_inj ((stamped_iff es cl).1 S).2.1 he' hem p
          rw [hy] at hx; cases hx; exact q rfl
        simp [q, this]
    · rcases hal with rfl | rfl <;> exact ⟨rfl, rfl, rfl, by simp [setBlock], fun i _ hi => hset.2 i (fun e1 => hi (by rw [e1]; rfl))⟩
    · rcases hal with rfl | rfl <;> simp [setBlock]
    · have := run_entry_at (P := Tryz.prog) _ r b since seen es cl e hset.1 hb' hem ((stamped_iff es cl).1 S).2.1
      rw [hx] at this
      exact this
/-- Of a key that is there another value is stored. -/
theorem Rgg.store (h : Rgg b r f left c w) {x : Int} (h0 : -9223372036854775808 ≤ x) (h1 : x < 9223372036854775808) (hx : f x ≠ none) {t e : TypeId} (ht : Tryz.prog.underlying t = some (.map 3 e)) (v : Value) :
    ∃ w', (Instr.mapUpdate t (.map (some b)) (.int .i64 x) v).run Tryz.prog w = .ok () w' ∧ Rgg b r (upd f x (some v)) left c w' ∧ Fr (On b) w w' ∧ w'.heap.size = w.heap.size := by
  have hl := h.map.lt
  have hne := h.ne
  obtain ⟨es, cl, since, seen, c0, hb, S, H, hr, hold, rfl, hl1, hl2, hsc, hsk⟩ := h
  obtain ⟨es', c', hrun, S', H', hw⟩ := store_who hb S H h0 h1 ht v
  obtain ⟨rfl, hbn, hks⟩ := hw hx
  have hat : ∀ e' ∈ es'.toList, ∃ e ∈ es.toList, e.key = e'.key ∧ e.born = e'.born := by
    intro e' he'
    obtain ⟨i, hi⟩ := List.getElem?_of_mem he'
    have q1 := congrArg (fun l => l[i]?) hbn
    have q2 := congrArg (fun l => l[i]?) hks
    simp only [List.getElem?_map, hi, Option.map_some] at q1 q2
    cases q : es.toList[i]? with
    | none => rw [q] at q1; cases q1
    | some e => rw [q] at q1 q2; simp only [Option.map_some, Option.some.injEq] at q1 q2; exact ⟨e, List.mem_of_getElem? q, q2.symm, q1.symm⟩
  refine ⟨_, hrun, ⟨es', c', since, seen, c0, heap_setBlock_same hb _, S', H', (heap_setBlock_other hb _ hne).trans hr, fun e' he' => ?_, ?_, fun e' he' y hy => ?_, fun y hy => ?_, hsc, hsk⟩, fr_block w b _ hl, by simp [setBlock]⟩
  · obtain ⟨e, he, _, q⟩ := hat e' he'; rw [← q]; exact hold e he
  · have e1 : ∀ a : Array MapEntry, (leftOf a seen).size = ((a.toList.map (·.born)).filter fun n => !seen.contains n).length := fun a => by
      unfold leftOf
      rw [List.filter_map, List.length_map, ← Array.length_toList, Array.toList_filter]
      rfl
    rw [e1, e1, hbn]
  · obtain ⟨e, he, q1, q2⟩ := hat e' he'
    rw [← q2]; exact hl1 e he y (by rw [q1]; exact hy)
  · unfold upd; split
    · simp
    · exact hl2 y hy
/-- A key that is no longer to come is taken out. -/
theorem Rgg.drop (h : Rgg b r f left c w) {x : Int} (h0 : -9223372036854775808 ≤ x) (h1 : x < 9223372036854775808) (hx : left x = false) {t e : TypeId} (ht : Tryz.prog.underlying t = some (.map 3 e)) (ty : TypeId) :
    ∃ w' c', (Builtin.delete_ #[t, 3] ty #[.map (some b), .int .i64 x]).run Tryz.prog w = .ok (.tuple #[]) w' ∧ Rgg b r (upd f x none) left c' w' ∧ c' ≤ c ∧ Fr (On b) w w' ∧ w'.heap.size = w.heap.size := by
  have hl := h.map.lt
  have hne := h.ne
  obtain ⟨es, cl, since, seen, c0, hb, S, H, hr, hold, rfl, hl1, hl2, hsc, hsk⟩ := h
  obtain ⟨es', hrun, S', H', hsub⟩ := drop_who (ty := ty) hb S H h0 h1 ht
  refine ⟨_, _, hrun, ⟨es', cl, since, seen, c0, heap_setBlock_same hb _, S', H', (heap_setBlock_other hb _ hne).trans hr, fun e' he' => hold e' (hsub.subset he'), rfl, fun e' he' y hy => hl1 e' (hsub.subset he') y hy, fun y hy => ?_, hsc, hsk⟩, ?_, fr_block w b _ hl, by simp [setBlock]⟩
  · unfold upd; split
    · rename_i q; subst q; rw [hx] at hy; cases hy
    · exact hl2 y hy
  · have e1 : ∀ a : Array MapEntry, (leftOf a seen).size = (a.toList.filter fun e => !seen.contains e.born).length := fun a => by
      unfold leftOf
      rw [← Array.toList_filter, Array.length_toList]
    rw [e1, e1]
    exact (hsub.filter _).length_le
end
end Go.Proofs.YtaefeakmlgjonaaGreat
/- What a range over a map, a store and a deletion within it do: for the walk. -/
namespace Go.Proofs.YtaefeakmlgjonaaGreat
open Go.ChangeShapes Go.WideShapes Go.ChangeAt Go.RowKit Go.Maps Go.MapKept
set_option linter.unusedVariables false
set_option linter.unusedSimpArgs false
section
variable {b : Nat} {w w1 : World}
section
variable {r c : Nat} {m : Int → Option Value} {left : Int → Bool} {ops : Array Oper} {rest : List Oper} {o : Oper} {a : Act} {Q : Exit → Act → World → Prop}
theorem wpl_range (hg : o.guard = none) (x : Operand) (T E : TypeId) (hop : o.op = Op.range T x) (ht : Tryz.prog.underlying T = some (.map 3 E)) (hm : a.eval x = .map (some b)) (h : Mp b m w)
    (hK : ∀ w' c, Rgg b w.heap.size m (fun x => (m x).isSome) c w' → Kp w w' → w'.heap.size = w.heap.size + 1 → wpList Tryz.prog ops Q rest (a.put o.dst (.pointer (some ⟨w.heap.size, 0, none⟩))) w') :
    wpList Tryz.prog ops Q (o :: rest) a w := by
  refine wpList_plain hg fun K' hK' => ?_
  obtain ⟨w', c, hrun, r1, r2, r3⟩ := h.ranged ht
  unfold Oper.wp
  simp [execOp, hop, hm, hrun, Result.andThen]
  exact hK' _ _ (hK w' c r1 r2 r3)
theorem wpl_next (hg : o.guard = none) (x : Operand) (hop : o.op = Op.next x false) (hm : a.eval x = .pointer (some ⟨r, 0, none⟩)) (h : Rgg b r m left c w)
    (h0 : (∀ y, left y = false) → wpList Tryz.prog ops Q rest (a.put o.dst (.tuple #[.bool false])) w)
    (h1 : ∀ y v w' c', -9223372036854775808 ≤ y → y < 9223372036854775808 → left y = true → m y = some v → Rgg b r m (fun z => left z && !decide (z = y)) c' w' → c' < c → Fr (On r) w w' → w'.heap.size = w.heap.size →
      (Instr.entry (.pointer (some ⟨r, 0, none⟩))).run Tryz.prog w' = .ok (.tuple #[.int .i64 y, v]) w' → wpList Tryz.prog ops Q rest (a.put o.dst (.tuple #[.bool true, .int .i64 y, v])) w') :
    wpList Tryz.prog ops Q (o :: rest) a w := by
  refine wpList_plain hg fun K' hK' => ?_
  unfold Oper.wp
  rcases h.next o.type with ⟨h2, hrun⟩ | ⟨y, v, w', c', q1, q2, q3, q4, hrun, q5, q6, q7, q8, q9⟩
  · simp [execOp, hop, hm, hrun, Result.andThen]
    exact hK' _ _ (h0 h2)
  · simp [execOp, hop, hm, hrun, Result.andThen]
    exact hK' _ _ (h1 y v w' c' q1 q2 q3 q4 q5 q6 q7 q8 q9)
theorem wpl_store (hg : o.guard = none) (x y v : Operand) (T E : TypeId) (hop : o.op = Op.mapUpdate T x y v) (ht : Tryz.prog.underlying T = some (.map 3 E)) (hm : a.eval x = .map (some b)) (h : Rgg b r m left c w)
    {k : Int} (hy : a.eval y = .int .i64 k) (k0 : -9223372036854775808 ≤ k) (k1 : k < 9223372036854775808) (hk : m k ≠ none) {u : Value} (hv : a.eval v = u)
    (hK : ∀ w', Rgg b r (upd m k (some u)) left c w' → Fr (On b) w w' → w'.heap.size = w.heap.size → wpList Tryz.prog ops Q rest (a.put o.dst undef) w') :
    wpList Tryz.prog ops Q (o :: rest) a w := by
  refine wpList_plain hg fun K' hK' => ?_
  obtain ⟨w', hrun, r1, r2, r3⟩ := h.store k0 k1 hk ht u
  unfold Oper.wp
  simp [execOp, hop, hm, hy, hv, hrun, Result.andThen]
  exact hK' _ _ (hK w' r1 r2 r3)
theorem wpl_delete (hg : o.guard = none) (x y : Operand) (T E : TypeId) (hop : o.op = Op.call { callee := Callee.builtin Builtin.delete, args := #[x, y], argTypes := #[T, 3] }) (ht : Tryz.prog.underlying T = some (.map 3 E)) (hm : a.eval x = .map (some b)) (h : Rgg b r m left c w)
    {k : Int} (hy : a.eval y = .int .i64 k) (k0 : -9223372036854775808 ≤ k) (k1 : k < 9223372036854775808) (hk : left k = false)
    (hK : ∀ w' c', Rgg b r (upd m k none) left c' w' → c' ≤ c → Fr (On b) w w' → w'.heap.size = w.heap.size → wpList Tryz.prog ops Q rest (a.put o.dst (.tuple #[])) w') :
    wpList Tryz.prog ops Q (o :: rest) a w := by
  refine wpList_plain hg fun K' hK' => ?_
  obtain ⟨w', c', hrun, r1, r2, r3, r4⟩ := h.drop k0 k1 hk ht o.type
  unfold Oper.wp
  simp [execOp, hop, resolve, invoke, builtin, hm, hy, hrun, Result.andThen]
  exact hK' _ _ (hK w' c' r1 r2 r3 r4)
end
end
end Go.Proofs.YtaefeakmlgjonaaGreat
/- Lines in memory; slices.Clone of lines. -/
namespace Go.Proofs.YtaefeakmlgjonaaGreat
open Go.ChangeShapes Go.WideShapes Go.ChangeAt Go.RowKit Go.Maps Go.MapKept
set_option linter.unusedVariables false
set_option linter.unusedSimpArgs false
set_option maxRecDepth 100000
/-- Lines as they lie in memory. -/
def strs (ls : List ByteArray) : List Value := ls.map Value.string
theorem strs_len (ls : List ByteArray) : (strs ls).length = ls.length := by simp [strs]
theorem strs_app (a b : List ByteArray) : strs (a ++ b) = strs a ++ strs b := by simp [strs]
theorem strs_one (ls : List ByteArray) : ∀ u ∈ strs ls, u.oneCell' = true := fun u hu => by
  obtain ⟨b, _, rfl⟩ := List.mem_map.1 hu
  rfl
theorem strs_at {ls : List ByteArray} {j : Nat} {u : Value} (h : (strs ls)[j]? = some u) : ∃ s, ls[j]? = some s ∧ u = .string s := by
  unfold strs at h
  rw [List.getElem?_map] at h
  obtain ⟨x, h1, h2⟩ := Option.map_eq_some_iff.1 h
  exact ⟨x, h1, h2.symm⟩
theorem add2 (g o j : Nat) : (⟨g, o, none⟩ : Addr).add j = ⟨g, o + j, none⟩ := by unfold Addr.add; split <;> simp_all
theorem infoStr : (Tryz.prog.info? 9).map (fun i => (i.zero, i.size, i.bytes)) = some (some (.string ⟨#[]⟩), 1, 16) := by kernel_rfl
/-- Lines that can be read; where they lie P holds. -/
def Sl (P : Nat → Prop) (v : Value) (ls : List ByteArray) (w : World) : Prop :=
  ∃ a cap, v = .slice a ls.length cap ∧ ls.length ≤ cap ∧ cap ≤ maxLen ∧ (a = none → cap = 0) ∧ ∀ i s, ls[i]? = some s → ∃ g o, a = some ⟨g, o, none⟩ ∧ P g ∧ w.cell? ⟨g, o + i, none⟩ = some (.string s)
section
variable {P Q S : Nat → Prop} {v : Value} {ls : List ByteArray} {w w1 : World}
theorem Sl.mono (h : Sl P v ls w) (hq : ∀ k, k < w.heap.size → P k → Q k) : Sl Q v ls w := by
  obtain ⟨a, cap, rfl, h1, h2, h3, h4⟩ := h
  refine ⟨a, cap, rfl, h1, h2, h3, fun i s hi => ?_⟩
  obtain ⟨g, o, e, q, c⟩ := h4 i s hi
  exact ⟨g, o, e, hq g (World.block_lt_of_cell? _ _ c) q, c⟩
theorem Sl.fr (h : Sl P v ls w) (k : Fr S w w1) (hn : ∀ g, P g → ¬ S g) : Sl P v ls w1 := by
  obtain ⟨a, cap, rfl, h1, h2, h3, h4⟩ := h
  refine ⟨a, cap, rfl, h1, h2, h3, fun i s hi => ?_⟩
  obtain ⟨g, o, e, q, c⟩ := h4 i s hi
  refine ⟨g, o, e, q, ?_⟩
  rw [World.cell?_of_block (k.block g (World.block_lt_of_cell? _ _ c) (hn g q))]
  exact c
theorem Sl.kp (h : Sl P v ls w) (k : Kp w w1) : Sl P v ls w1 := by
  obtain ⟨a, cap, rfl, h1, h2, h3, h4⟩ := h
  refine ⟨a, cap, rfl, h1, h2, h3, fun i s hi => ?_⟩
  obtain ⟨g, o, e, q, c⟩ := h4 i s hi
  exact ⟨g, o, e, q, kp_cell k c⟩
theorem Sl.form (h : Sl P v ls w) : ∃ a cap, v = .slice a ls.length cap ∧ ls.length ≤ cap ∧ cap ≤ maxLen ∧ (a = none → cap = 0) := by
  obtain ⟨a, cap, rfl, h1, h2, h3, h4⟩ := h
  exact ⟨a, cap, rfl, h1, h2, h3⟩
theorem Sl.nil (P : Nat → Prop) (w : World) : Sl P (.slice none 0 0) [] w := ⟨none, 0, rfl, Nat.le_refl _, by simp [maxLen], (fun _ => rfl), fun i s hi => by cases hi⟩
theorem Sl.of_row {B : Nat} (h : w.ownsRow B 9 1 v ls.length (strs ls)) : Sl (fun k => B ≤ k) v ls w := by
  rcases h.2 with ⟨rfl, h0⟩ | ⟨g, cap, cur, rfl, hb, hg, h1, h2, h3, h4⟩
  · obtain rfl : ls = [] := List.eq_nil_of_length_eq_zero h0
    exact Sl.nil _ _
  · refine ⟨_, cap, rfl, h1, h2, (fun e => by cases e), fun i s hi => ⟨g, 0, rfl, hb, ?_⟩⟩
    have hl := (List.getElem?_eq_some_iff.1 hi).1
    rw [cell_at hg, Nat.zero_add, ← Array.getElem?_toList]
    have q : (strs ls)[i]? = some (.string s) := by unfold strs; rw [List.getElem?_map, hi]; rfl
    rw [← h4, List.getElem?_take, if_pos (by omega)] at q
    exact q
/-- A slice of lines as the source of an append. -/
theorem Sl.src {a : Option Addr} {n c : Nat} (h : Sl P (.slice a n c) ls w) : n = ls.length ∧ (a = none → n = 0 ∧ c = 0) ∧ ∀ ad, a = some ad → ∀ j u, (strs ls)[j]? = some u → w.cell? (ad.add j) = some u := by
  obtain ⟨a', cap, e, h1, h2, h3, h4⟩ := h
  cases e
  refine ⟨rfl, fun q => ⟨by have := h3 q; omega, h3 q⟩, fun ad q j u hj => ?_⟩
  obtain ⟨s, hs, rfl⟩ := strs_at hj
  obtain ⟨g, o, e, _, c⟩ := h4 j s hs
  rw [e, Option.some.injEq] at q
  rw [← q, add2]; exact c
theorem Sl.at_ {a : Option Addr} {n c : Nat} (h : Sl P (.slice a n c) ls w) {i : Nat} {s : ByteArray} (hi : ls[i]? = some s) : ∃ g o, a = some ⟨g, o, none⟩ ∧ P g ∧ w.cell? ⟨g, o + i, none⟩ = some (.string s) := by
  obtain ⟨a', cap, e, h1, h2, h3, h4⟩ := h
  cases e
  exact h4 i s hi
end
/-- Lines of the call's own. -/
def Row (B : Nat) (v : Value) (ls : List ByteArray) (w : World) : Prop := w.ownsRow B 9 1 v ls.length (strs ls)
theorem Row.form {B : Nat} {v : Value} {ls : List ByteArray} {w : World} (h : Row B v ls w) : ∃ a cap, v = .slice a ls.length cap ∧ ls.length ≤ cap ∧ cap ≤ maxLen := owns_form h
/-- Lines are laid behind those that a row has. -/
theorem wpl_str {P : Nat → Prop} {w : World} {ops : Array Oper} {rest : List Oper} {o : Oper} {ac : Act} {Q : Exit → Act → World → Prop} (hgd : o.guard = none) (s x : Operand) (ho : o.op = .call { callee := .builtin .append, args := #[s, x], argTypes := #[22, 22] })
    {B K : Nat} {v : Value} {ls ms : List ByteArray} (hs : ac.eval s = v) (hr : Row B v ls w) {sa : Option Addr} {m c : Nat} (hx : ac.eval x = .slice sa m c) (hm : Sl P (.slice sa m c) ms w)
    (hK : ls.length + ms.length = K) (hl : K ≤ 8796093022208) (hB : B ≤ w.heap.size)
    (k : ∀ a' c' w', K ≤ c' → c' ≤ 9223372036854775807 → Row B (.slice a' K c') (ls ++ ms) w' → w.grownBy w' v.ownBlock → wpList Tryz.prog ops Q rest (ac.put o.dst (.slice a' K c')) w') : wpList Tryz.prog ops Q (o :: rest) ac w := by
  obtain ⟨i9, hi9, z0, z1, z2⟩ := info_parts infoStr
  obtain ⟨rfl, hn, hc⟩ := hm.src
  subst hK
  have hm9 : ls.length + ms.length ≤ maxLen := by unfold maxLen; omega
  cases sa with
  | some ad =>
    refine wpList_append_own w hgd s x 22 ho B 9 i9 _ 1 16 Tryz.underlying22 hi9 z0 z1 z2 rfl (by decide) v ls.length (strs ls) hs hr ad ms.length c (strs ms) hx (by rw [strs_len]; omega) (hc ad rfl) (strs_one ms) hm9 (by omega) hB ?_
    intro v' w' q1 q2 _
    obtain ⟨a', c', rfl, q3, q4⟩ := owns_form q1
    exact k a' c' w' q3 q4 (by unfold Row; rw [strs_app, List.length_append]; exact q1) q2
  | none =>
    obtain ⟨h0, rfl⟩ := hn rfl
    obtain rfl : ms = [] := List.eq_nil_of_length_eq_zero h0
    refine wpList_append_own_none hgd s x 22 ho B 9 i9 1 Tryz.underlying22 hi9 v ls.length (strs ls) hs hr (by rw [hx]; rfl) ?_
    obtain ⟨a', c', rfl, q3, q4⟩ := owns_form hr
    exact k a' c' w q3 q4 (by simpa using hr) (World.grownBy.refl _ _)
theorem below_grown {w w' : World} {B n : Nat} {v : Value} {xs : List Value} {e : TypeId} {size : Nat} (hr : w.ownsRow B e size v n xs) (hB : B ≤ w.heap.size) (hg : w.grownBy w' v.ownBlock) : Below B w w' :=
  ⟨hg.os, hg.tape, hg.output, hg.size, fun k hk => hg.block k (by omega) fun e => by have := (hr.lt k e.symm).1; omega⟩
theorem row_made (w : World) : Row w.heap.size (.slice (some ⟨w.heap.size, 0, none⟩) 0 0) [] (w.alloc (.cells #[] 9)) :=
  ⟨rfl, .inr ⟨w.heap.size, 0, #[], rfl, Nat.le_refl _, alloc_new _ _, Nat.le_refl _, by simp [maxLen], rfl, rfl⟩⟩
theorem eql_sl (ad : Addr) (n c : Nat) (w : World) : Sem.run Tryz.prog (binOp BinOp.eql 22 (.slice (some ad) n c) (.slice none 0 0)) w = .ok (.bool false) w := by kernel_rfl
set_option maxHeartbeats 2000000 in
theorem clone_any {P : Nat → Prop} {v : Value} {ls : List ByteArray} {w : World} (h : Sl P v ls w) (hne : ls ≠ []) (hl : ls.length ≤ 8796093022208) :
    Calls Tryz.prog 77 #[v] w fun e w' => ∃ v', e = .returned v' ∧ Row w.heap.size v' ls w' ∧ Kp w w' := by
  obtain ⟨a, cap, rfl, h1, h2, h3, h4⟩ := h
  have hpos : 0 < ls.length := List.length_pos_iff.2 hne
  obtain ⟨g, o, rfl⟩ : ∃ g o, a = some ⟨g, o, none⟩ := by
    obtain ⟨g, o, e, _⟩ := h4 0 ls[0] (List.getElem?_eq_getElem hpos)
    exact ⟨g, o, e⟩
  have HS : Hid (Sl P (.slice (some ⟨g, o, none⟩) ls.length cap) ls (w.alloc (.cells #[] 9))) := Sl.kp ⟨_, cap, rfl, h1, h2, h3, h4⟩ (kp_alloc _ _)
  have HR : Hid (Row w.heap.size (.slice (some ⟨w.heap.size, 0, none⟩) 0 0) [] (w.alloc (.cells #[] 9))) := row_made w
  have HL : Hid (ls.length ≤ 8796093022208 ∧ w.heap.size ≤ (w.alloc (.cells #[] 9)).heap.size) := ⟨hl, by rw [alloc_size]; omega⟩
  clear h1 h2 h3 h4 hne hl hpos
  have hq := eql_sl ⟨g, o, none⟩ ls.length cap
  go_enter Tryz.func77, Tryz.ntmps77
  go_wp2_with (at_builtin; refine wpl_str (K := ls.length) rfl (.tmp 5) (.tmp 6) rfl rfl HR.out rfl HS.out (by simp) HL.out.1 HL.out.2 ?_; intro a' c' w' _ _ q1 q2)
  go_ret
  exact ⟨_, rfl, q1, (kp_alloc w _).trans (below_grown HR.out HL.out.2 q2)⟩
end Go.Proofs.YtaefeakmlgjonaaGreat
/- Changes in memory. -/
namespace Go.Proofs.YtaefeakmlgjonaaGreat
open Go.ChangeShapes Go.WideShapes Go.ChangeAt Go.RowKit Go.Maps Go.MapKept
set_option linter.unusedVariables false
set_option linter.unusedSimpArgs false
set_option maxRecDepth 100000
/-- A change, plainly. -/
structure Dl where
  at_ : Int
  old : List ByteArray
  nw : List ByteArray
/-- A change's three cells. -/
structure Dv where
  a : Int
  x : Value
  y : Value
def flatV : List Dv → List Value
  | [] => []
  | c :: r => .int .i64 c.a :: c.x :: c.y :: flatV r
theorem flatV_len : ∀ cs : List Dv, (flatV cs).length = 3 * cs.length
  | [] => rfl
  | c :: r => by simp only [flatV, List.length_cons, flatV_len r]; omega
theorem flatV_app : ∀ a b : List Dv, flatV (a ++ b) = flatV a ++ flatV b
  | [], b => rfl
  | c :: r, b => by simp only [flatV, List.cons_append, flatV_app r b]
theorem flatV_at : ∀ {cs : List Dv} {i : Nat} {c : Dv}, cs[i]? = some c → (flatV cs)[3 * i]? = some (.int .i64 c.a) ∧ (flatV cs)[3 * i + 1]? = some c.x ∧ (flatV cs)[3 * i + 2]? = some c.y
  | [], i, c, h => by cases h
  | d :: r, 0, c, h => by cases h; exact ⟨rfl, rfl, rfl⟩
  | d :: r, i + 1, c, h => by
    have q := flatV_at (cs := r) (i := i) (c := c) h
    rw [show 3 * (i + 1) = 3 * i + 1 + 1 + 1 by omega]
    exact q
theorem flatV_one : ∀ {cs : List Dv}, (∀ c ∈ cs, c.x.oneCell' = true ∧ c.y.oneCell' = true) → ∀ u ∈ flatV cs, u.oneCell' = true
  | [], _, u, hu => by cases hu
  | c :: r, h, u, hu => by
    simp only [flatV, List.mem_cons] at hu
    rcases hu with rfl | rfl | rfl | hu
    · rfl
    · exact (h c (.head _)).1
    · exact (h c (.head _)).2
    · exact flatV_one (fun d hd => h d (.tail _ hd)) u hu
abbrev Xl := Value → List ByteArray → World → Prop
/-- The cells say these changes, their lines as X says. -/
def Say (X : Xl) (cs : List Dv) (ds : List Dl) (w : World) : Prop := cs.length = ds.length ∧ ∀ (i : Nat) (d : Dl) (c : Dv), ds[i]? = some d → cs[i]? = some c → c.a = d.at_ ∧ X c.x d.old w ∧ X c.y d.nw w
/-- What is asked of X: lines that can be read, which stay. -/
structure Okx (B : Nat) (X : Xl) : Prop where
  sl : ∀ {v ls w}, X v ls w → Sl (fun _ => True) v ls w
  kp : ∀ {v ls w w'}, X v ls w → Kp w w' → X v ls w'
  grow : ∀ {u ls w w' v n xs}, B ≤ w.heap.size → X u ls w → w.ownsRow B 89 3 v n xs → w.grownBy w' v.ownBlock → X u ls w'
theorem Okx.one {B : Nat} {X : Xl} (ok : Okx B X) {v : Value} {ls : List ByteArray} {w : World} (h : X v ls w) : v.oneCell' = true := by
  obtain ⟨a, c, rfl, _⟩ := (ok.sl h).form
  rfl
theorem fr_grown {w w' : World} {o : Option Nat} (hg : w.grownBy w' o) : Fr (fun k => some k = o) w w' := ⟨hg.os, hg.tape, hg.output, hg.size, fun k hk hn => hg.block k hk hn⟩
theorem okRow (B C : Nat) : Okx B (Row C) :=
  ⟨fun h => (Sl.of_row h).mono fun _ _ _ => trivial, fun h k => row_kp h k, fun hB h hr hg => row_fr h (fr_grown hg) fun j hj e => row_row hr h (by decide) j (by rw [← e]) hj⟩
theorem okSl (B : Nat) : Okx B (Sl fun k => k < B) :=
  ⟨fun h => h.mono fun _ _ _ => trivial, fun h k => h.kp k, fun hB h hr hg => h.fr (fr_grown hg) fun g q e => by have := (hr.lt g e.symm).1; omega⟩
section
variable {X : Xl} {B : Nat} {cs : List Dv} {ds es : List Dl} {v : Value} {w w' : World} {P : Nat → Prop}
theorem Say.kp (h : Say X cs ds w) (ok : Okx B X) (k : Kp w w') : Say X cs ds w' := ⟨h.1, fun i d c h1 h2 => ⟨(h.2 i d c h1 h2).1, ok.kp (h.2 i d c h1 h2).2.1 k, ok.kp (h.2 i d c h1 h2).2.2 k⟩⟩
theorem Say.imp {Y : Xl} {w' : World} (h : Say X cs ds w) (k : ∀ v ls, X v ls w → Y v ls w') : Say Y cs ds w' := ⟨h.1, fun i d c h1 h2 => ⟨(h.2 i d c h1 h2).1, k _ _ (h.2 i d c h1 h2).2.1, k _ _ (h.2 i d c h1 h2).2.2⟩⟩
theorem Say.one (h : Say X cs ds w) (ok : Okx B X) : ∀ c ∈ cs, c.x.oneCell' = true ∧ c.y.oneCell' = true := fun c hc => by
  obtain ⟨i, hi, rfl⟩ := List.getElem_of_mem hc
  have hi2 : i < ds.length := by have := h.1; omega
  have q := h.2 i ds[i] cs[i] (List.getElem?_eq_getElem hi2) (List.getElem?_eq_getElem hi)
  exact ⟨ok.one q.2.1, ok.one q.2.2⟩
theorem Say.app {cs' : List Dv} (h : Say X cs ds w) (h' : Say X cs' es w) : Say X (cs ++ cs') (ds ++ es) w := by
  refine ⟨by rw [List.length_append, List.length_append, h.1, h'.1], fun i d c h1 h2 => ?_⟩
  by_cases q : i < ds.length
  · rw [List.getElem?_append_left q] at h1
    rw [List.getElem?_append_left (by rw [h.1]; exact q)] at h2
    exact h.2 i d c h1 h2
  · rw [List.getElem?_append_right (by omega)] at h1
    rw [List.getElem?_append_right (by rw [h.1]; omega), h.1] at h2
    exact h'.2 _ d c h1 h2
/-- Changes that can be read; where they lie P holds. -/
def Dr (P : Nat → Prop) (X : Xl) (v : Value) (ds : List Dl) (w : World) : Prop :=
  ∃ a cap cs, v = .slice a ds.length cap ∧ ds.length ≤ cap ∧ cap ≤ maxLen ∧ (a = none → cap = 0) ∧ (∀ j u, (flatV cs)[j]? = some u → ∃ g o, a = some ⟨g, o, none⟩ ∧ P g ∧ w.cell? ⟨g, o + j, none⟩ = some u) ∧ Say X cs ds w
/-- Changes of the call's own. -/
def Dx (X : Xl) (B : Nat) (v : Value) (ds : List Dl) (w : World) : Prop := ∃ cs, w.ownsRow B 89 3 v ds.length (flatV cs) ∧ Say X cs ds w
abbrev Dw (B : Nat) (v : Value) (ds : List Dl) (w : World) : Prop := Dx (Row B) B v ds w
theorem Dr.form (h : Dr P X v ds w) : ∃ a cap, v = .slice a ds.length cap ∧ ds.length ≤ cap ∧ cap ≤ maxLen ∧ (a = none → cap = 0) := by
  obtain ⟨a, cap, cs, rfl, h1, h2, h3, _⟩ := h
  exact ⟨a, cap, rfl, h1, h2, h3⟩
theorem Dx.form (h : Dx X B v ds w) : ∃ a cap, v = .slice a ds.length cap ∧ ds.length ≤ cap ∧ cap ≤ maxLen := by obtain ⟨cs, h, _⟩ := h; exact owns_form h
theorem Dx.nil (X : Xl) (B : Nat) (w : World) : Dx X B (.slice none 0 0) [] w := ⟨[], ⟨rfl, .inl ⟨rfl, rfl⟩⟩, rfl, fun i d c h => by cases h⟩
theorem Dx.kp (h : Dx X B v ds w) (ok : Okx B X) (k : Kp w w') : Dx X B v ds w' := by obtain ⟨cs, h1, h2⟩ := h; exact ⟨cs, row_kp h1 k, h2.kp ok k⟩
theorem Dr.kp (h : Dr P X v ds w) (ok : Okx B X) (k : Kp w w') : Dr P X v ds w' := by
  obtain ⟨a, cap, cs, rfl, h1, h2, h3, h4, h5⟩ := h
  refine ⟨a, cap, cs, rfl, h1, h2, h3, fun j u hj => ?_, h5.kp ok k⟩
  obtain ⟨g, o, e, q, c⟩ := h4 j u hj
  exact ⟨g, o, e, q, kp_cell k c⟩
theorem Dx.dr (h : Dx X B v ds w) : Dr (fun k => B ≤ k) X v ds w := by
  obtain ⟨cs, h1, h2⟩ := h
  rcases h1.2 with ⟨rfl, h0⟩ | ⟨g, cap, cur, rfl, hb, hg, p1, p2, p3, p4⟩
  · obtain rfl : ds = [] := List.eq_nil_of_length_eq_zero h0
    obtain rfl : cs = [] := List.eq_nil_of_length_eq_zero h2.1
    exact ⟨none, 0, [], rfl, Nat.le_refl _, by simp [maxLen], (fun _ => rfl), (fun j u h => by cases h), h2⟩
  · refine ⟨_, cap, cs, rfl, p1, p2, (fun e => by cases e), fun j u hj => ⟨g, 0, rfl, hb, ?_⟩, h2⟩
    have hl := (List.getElem?_eq_some_iff.1 hj).1
    have hl2 : (flatV cs).length = 3 * ds.length := by rw [flatV_len, h2.1]
    rw [cell_at hg, Nat.zero_add, ← Array.getElem?_toList]
    rw [← p4, List.getElem?_take, if_pos (by omega)] at hj
    exact hj
theorem Dr.at_ {a : Option Addr} {n c : Nat} (h : Dr P X (.slice a n c) ds w) {i : Nat} {d : Dl} (hi : ds[i]? = some d) : ∃ g o x y, a = some ⟨g, o, none⟩ ∧ P g ∧ w.cell? ⟨g, o + i * 3, none⟩ = some (.int .i64 d.at_) ∧ w.cell? ⟨g, o + i * 3 + 1, none⟩ = some x ∧ w.cell? ⟨g, o + i * 3 + 2, none⟩ = some y ∧ X x d.old w ∧ X y d.nw w := by
  obtain ⟨a', cap, cs, e, h1, h2, h3, h4, h5⟩ := h
  cases e
  have hl := (List.getElem?_eq_some_iff.1 hi).1
  obtain ⟨q1, q2, q3⟩ := flatV_at (List.getElem?_eq_getElem (l := cs) (i := i) (by rw [h5.1]; exact hl))
  obtain ⟨r1, r2, r3⟩ := h5.2 i d _ hi (List.getElem?_eq_getElem (l := cs) (i := i) (by rw [h5.1]; exact hl))
  obtain ⟨g, o, e, p, c0⟩ := h4 _ _ q1
  obtain ⟨g', o', e', _, c1⟩ := h4 _ _ q2
  obtain ⟨g'', o'', e'', _, c2⟩ := h4 _ _ q3
  rw [e] at e' e''
  cases e'; cases e''
  exact ⟨g, o, _, _, e, p, by rw [← r1, Nat.mul_comm i 3]; exact c0, by rw [Nat.add_assoc, Nat.mul_comm i 3]; exact c1, by rw [Nat.add_assoc, Nat.mul_comm i 3]; exact c2, r2, r3⟩
theorem infoDelta : (Tryz.prog.info? 89).map (fun i => (i.zero, i.size, i.bytes)) = some (some (.agg #[.int .i64 0, .slice none 0 0, .slice none 0 0]), 3, 56) := by kernel_rfl
theorem Say.grow (h : Say X cs ds w) (ok : Okx B X) (hB : B ≤ w.heap.size) {n : Nat} {xs : List Value} (hr : w.ownsRow B 89 3 v n xs) (hg : w.grownBy w' v.ownBlock) : Say X cs ds w' := h.imp fun _ _ q => ok.grow hB q hr hg
/-- Changes are laid behind those that a row has. -/
theorem wpl_del {ops : Array Oper} {rest : List Oper} {o : Oper} {ac : Act} {Q : Exit → Act → World → Prop} (hgd : o.guard = none) (s x : Operand) (ho : o.op = .call { callee := .builtin .append, args := #[s, x], argTypes := #[60, 60] }) (ok : Okx B X)
    {K : Nat} (hs : ac.eval s = v) (hr : Dx X B v ds w) {sa : Option Addr} {m c : Nat} (hx : ac.eval x = .slice sa m c) (hm : Dr P X (.slice sa m c) es w) (hK : ds.length + es.length = K) (hl : K ≤ 2513169434916) (hB : B ≤ w.heap.size)
    (k : ∀ a' c' w', K ≤ c' → c' ≤ 9223372036854775807 → Dx X B (.slice a' K c') (ds ++ es) w' → w.grownBy w' v.ownBlock → Below B w w' → wpList Tryz.prog ops Q rest (ac.put o.dst (.slice a' K c')) w') : wpList Tryz.prog ops Q (o :: rest) ac w := by
  obtain ⟨i9, hi9, z0, z1, z2⟩ := info_parts infoDelta
  obtain ⟨a0, cap0, cs', e, p1, p2, p3, p4, p5⟩ := hm
  cases e
  obtain ⟨cs, r1, r2⟩ := hr
  subst hK
  have hm9 : ds.length + es.length ≤ maxLen := by unfold maxLen; omega
  cases sa with
  | some ad =>
    refine wpList_append_own w hgd s x 60 ho B 89 i9 _ 3 56 Tryz.underlying60 hi9 z0 z1 z2 rfl (by decide) v ds.length (flatV cs) hs r1 ad es.length c (flatV cs') hx (by rw [flatV_len, p5.1]; omega) (fun j u hj => ?_) (flatV_one (p5.one ok)) hm9 (by omega) hB ?_
    · obtain ⟨g, o', e', _, q⟩ := p4 j u hj
      cases e'
      rw [add2]; exact q
    intro v' w' q1 q2 _
    obtain ⟨a', c', rfl, q3, q4⟩ := owns_form q1
    exact k a' c' w' q3 q4 ⟨cs ++ cs', by rw [flatV_app, List.length_append]; exact q1, (r2.app p5).grow ok hB r1 q2⟩ q2 (below_grown r1 hB q2)
  | none =>
    obtain rfl : c = 0 := p3 rfl
    obtain rfl : es = [] := List.eq_nil_of_length_eq_zero (by omega)
    refine wpList_append_own_none hgd s x 60 ho B 89 i9 3 Tryz.underlying60 hi9 v ds.length (flatV cs) hs r1 (by rw [hx]; rfl) ?_
    obtain ⟨a', c', rfl, q3, q4⟩ := owns_form r1
    exact k a' c' w q3 q4 (by rw [List.append_nil]; exact ⟨cs, r1, r2⟩) (World.grownBy.refl _ _) (Below.refl _ _)
end
theorem eql_nl (w : World) : Sem.run Tryz.prog (binOp BinOp.eql 22 (.slice none 0 0) (.slice none 0 0)) w = .ok (.bool true) w := by kernel_rfl
set_option maxHeartbeats 2000000 in
theorem clone_all {P : Nat → Prop} {v : Value} {ls : List ByteArray} {w : World} (h : Sl P v ls w) (hl : ls.length ≤ 8796093022208) :
    Calls Tryz.prog 77 #[v] w fun e w' => ∃ v', e = .returned v' ∧ Row w.heap.size v' ls w' ∧ Kp w w' := by
  by_cases hne : ls = []
  · subst hne
    obtain ⟨a, cap, rfl, h1, h2, h3, h4⟩ := h
    cases a with
    | none =>
      obtain rfl := h3 rfl
      have hq := eql_nl
      go_enter Tryz.func77, Tryz.ntmps77
      go_wp2
      go_ret
      exact ⟨_, rfl, ⟨rfl, .inl ⟨rfl, rfl⟩⟩, Below.refl _ _⟩
    | some ad =>
      have HS : Hid (Sl P (.slice (some ad) 0 cap) [] (w.alloc (.cells #[] 9))) := Sl.kp ⟨_, cap, rfl, h1, h2, h3, h4⟩ (kp_alloc _ _)
      have HR : Hid (Row w.heap.size (.slice (some ⟨w.heap.size, 0, none⟩) 0 0) [] (w.alloc (.cells #[] 9))) := row_made w
      have HL : Hid (w.heap.size ≤ (w.alloc (.cells #[] 9)).heap.size) := by show _ ≤ _; rw [alloc_size]; omega
      clear h1 h2 h3 h4 hl
      have hq := eql_sl ad 0 cap
      go_enter Tryz.func77, Tryz.ntmps77
      go_wp2_with (at_builtin; refine wpl_str (K := 0) rfl (.tmp 5) (.tmp 6) rfl rfl HR.out rfl HS.out (by simp) (by omega) HL.out ?_; intro a' c' w' _ _ q1 q2)
      go_ret
      exact ⟨_, rfl, q1, (kp_alloc w _).trans (below_grown HR.out HL.out q2)⟩
  · exact clone_any h hne hl
end Go.Proofs.YtaefeakmlgjonaaGreat
/- undo.copies: changes in memory of their own. -/
namespace Go.Proofs.YtaefeakmlgjonaaGreat
open Go.ChangeShapes Go.WideShapes Go.ChangeAt Go.RowKit Go.Maps Go.MapKept
set_option linter.unusedVariables false
set_option linter.unusedSimpArgs false
set_option maxRecDepth 100000
theorem takeAt {P : Program} {ops : Array Oper} {Q : Exit → Act → World → Prop} {md : Region.Mode} {S : World → Prop} (i : Nat) (dst : Option Tmp) (v : Value) {oi : Oper} {fuel : Nat} {listed : Array Bool} {a : Act} {w : World} (hi : ops[i]? = some oi) (hd : oi.dst = dst)
    (hs : Region.noSelect ops = true) (hf : Region.free md ops listed i = true) (hr : (Region.ready md ops listed).contains i = true)
    (hQ : ∀ c a w, Q (.panic c) (a.put dst v) w → Q (.panic c) a w) (hy : YieldsIf P ops S oi v a) (hS : S w)
    (h : wpAnyH P md ops Q S fuel (listed.setIfInBounds i true) (a.put dst v) w) : wpAnyH P md ops Q S (fuel + 1) listed a w := by
  subst hd
  exact wpAnyH_take hi hs hf hr hQ hy hS h
theorem run_callGo {P : Program} {f : FuncId} {fn : Func} (args : Array Value) (w : World) (hf : P.funcs[f]? = some fn) (hn : (fn.name == "runtime.NumGoroutine") = false) (hb : fn.body.isNone = false) : (callFunc f args).run P w = .ok (.enter f args) w := by
  have h1 : ¬ fn.name = "runtime.NumGoroutine" := by simpa using hn
  have h2 : ¬ fn.body = none := by intro e; rw [e] at hb; cases hb
  simp [callFunc, hf, h1, h2]
/-- The call of a Go function comes up alone. -/
theorem callAt {P : Program} {ops : Array Oper} {Q : Exit → Act → World → Prop} {md : Region.Mode} {S : World → Prop} (i : Nat) (d : Tmp) (f : FuncId) {o : Oper} {fn : Func} {fuel : Nat} {listed : Array Bool} {a : Act} {w : World} {xs : Array Operand} {ats : Array TypeId} {vals : Array Value}
    (hr : Region.ready md ops listed = [i]) (ho : ops[i]? = some o) (hop : o.op = .call { callee := .value (.func f), args := xs, argTypes := ats }) (hd : o.dst = some d) (hg : o.guard = none) (hv : xs.map a.eval = vals)
    (hf : P.funcs[f]? = some fn) (hn : (fn.name == "runtime.NumGoroutine") = false) (hb : fn.body.isNone = false)
    (h : Calls P f vals w fun e w' => ∃ v, e = .returned v ∧ S w' ∧ (S w' → wpAnyH P md ops Q S fuel (listed.setIfInBounds i true) (a.put (some d) v) w')) : wpAnyH P md ops Q S (fuel + 1) listed a w := by
  refine wpAnyH_ready hr (by simp) ?_
  refine AllReadyH.cons ho (fun K hK => ?_) AllReadyH.nil
  have hw : Region.wanted o (yielded ops a.tmps) = true := by simp [Region.wanted, hg]
  rw [if_pos hw]
  obtain ⟨dst, op, type, pos, after, guard⟩ := o
  simp only at hop hd hg
  subst hop; subst hd; subst hg
  unfold Oper.wp
  rw [execOp_call_go, show (#[] ++ xs.map a.eval ++ #[]) = vals by simp [hv], run_callGo vals w hf hn hb]
  simp only [Oper.upon]
  refine Calls.mono h ?_
  rintro e w' ⟨v, rfl, hS, hW⟩
  exact hK.out _ _ hS hW
theorem callAtG {P : Program} {ops : Array Oper} {Q : Exit → Act → World → Prop} {md : Region.Mode} {S : World → Prop} (i : Nat) (d : Tmp) (f : FuncId) {o : Oper} {fn : Func} {fuel : Nat} {listed : Array Bool} {a : Act} {w : World} {xs : Array Operand} {ats : Array TypeId} {vals : Array Value}
    (hr : Region.ready md ops listed = [i]) (ho : ops[i]? = some o) (hop : o.op = .call { callee := .value (.func f), args := xs, argTypes := ats }) (hd : o.dst = some d) (hw : Region.wanted o (yielded ops a.tmps) = true) (hv : xs.map a.eval = vals)
    (hf : P.funcs[f]? = some fn) (hn : (fn.name == "runtime.NumGoroutine") = false) (hb : fn.body.isNone = false)
    (h : Calls P f vals w fun e w' => ∃ v, e = .returned v ∧ S w' ∧ (S w' → wpAnyH P md ops Q S fuel (listed.setIfInBounds i true) (a.put (some d) v) w')) : wpAnyH P md ops Q S (fuel + 1) listed a w := by
  refine wpAnyH_ready hr (by simp) ?_
  refine AllReadyH.cons ho (fun K hK => ?_) AllReadyH.nil
  rw [if_pos hw]
  obtain ⟨dst, op, type, pos, after, guard⟩ := o
  simp only at hop hd
  subst hop; subst hd
  unfold Oper.wp
  rw [execOp_call_go, show (#[] ++ xs.map a.eval ++ #[]) = vals by simp [hv], run_callGo vals w hf hn hb]
  simp only [Oper.upon]
  refine Calls.mono h ?_
  rintro e w' ⟨v, rfl, hS, hW⟩
  exact hK.out _ _ hS hW
/-- So many changes at most, of lines so many as memory holds. -/
def Few (N : Nat) (ds : List Dl) : Prop := ds.length ≤ N ∧ ∀ d ∈ ds, d.old.length ≤ 8796093022208 ∧ d.nw.length ≤ 8796093022208
theorem take_snoc {α : Type} (l : List α) {i : Nat} {x : α} (h : l[i]? = some x) : l.take (i + 1) = l.take i ++ [x] := by rw [List.take_add_one, h, Option.toList_some]
theorem step_del {X : Xl} {B : Nat} {ds es : List Dl} {v : Value} {w : World} {P : Nat → Prop} {ops : Array Oper} {o : Oper} {ac : Act} {K : Act → World → Prop} {Q : Exit → Act → World → Prop} {E : Prop} (hgd : o.guard = none) (s x : Operand) (ho : o.op = .call { callee := .builtin .append, args := #[s, x], argTypes := #[60, 60] }) (ok : Okx B X)
    {M : Nat} (hs : ac.eval s = v) (hr : Dx X B v ds w) {ad : Addr} {m c : Nat} (hx : ac.eval x = .slice (some ad) m c) (hm : Dr P X (.slice (some ad) m c) es w) (hK : ds.length + es.length = M) (hl : M ≤ 2513169434916) (hB : B ≤ w.heap.size)
    (k : ∀ a' c' w', Dx X B (.slice a' M c') (ds ++ es) w' → w.grownBy w' v.ownBlock → Below B w w' → K (ac.put o.dst (.slice a' M c')) w') : if Region.wanted o (yielded ops ac.tmps) = true then Oper.wp Tryz.prog o ac w K Q else E := by
  obtain ⟨i9, hi9, z0, z1, z2⟩ := info_parts infoDelta
  obtain ⟨a0, cap0, cs', e, p1, p2, p3, p4, p5⟩ := hm
  cases e
  obtain ⟨cs, r1, r2⟩ := hr
  subst hK
  have hm9 : ds.length + es.length ≤ maxLen := by unfold maxLen; omega
  have hw : Region.wanted o (yielded ops ac.tmps) = true := by simp [Region.wanted, hgd]
  rw [if_pos hw]
  refine wp_append_own w s x 60 ho B 89 i9 _ 3 56 Tryz.underlying60 hi9 z0 z1 z2 rfl (by decide) v ds.length (flatV cs) hs r1 ad es.length c (flatV cs') hx (by rw [flatV_len, p5.1]; omega) (fun j u hj => ?_) (flatV_one (p5.one ok)) hm9 (by omega) hB ?_
  · obtain ⟨g, o', e', _, q⟩ := p4 j u hj
    cases e'
    rw [add2]; exact q
  intro v' w' q1 q2 _
  obtain ⟨a', c', rfl, q3, q4⟩ := owns_form q1
  exact k a' c' w' ⟨cs ++ cs', by rw [flatV_app, List.length_append]; exact q1, (r2.app p5).grow ok hB r1 q2⟩ q2 (below_grown r1 hB q2)
/-- One change, in a block of its own. -/
theorem Dr.one {X : Xl} {w : World} {d : Dl} {x y : Value} (hx : X x d.old w) (hy : X y d.nw w) {b : Nat} (hb : Lc 89 b [.int .i64 d.at_, x, y] w) : Dr (fun _ => True) X (.slice (some ⟨b, 0, none⟩) 1 1) [d] w := by
  refine ⟨_, 1, [⟨d.at_, x, y⟩], rfl, Nat.le_refl _, by simp [maxLen], (fun e => by cases e), fun j u hj => ⟨b, 0, rfl, trivial, ?_⟩, rfl, fun i e c h1 h2 => ?_⟩
  · rw [Nat.zero_add]; exact hb.at hj
  · have q := (List.getElem?_eq_some_iff.1 h1).1
    obtain rfl : i = 0 := by simp at q; exact q
    cases h1; cases h2
    exact ⟨rfl, hx, hy⟩
set_option maxHeartbeats 8000000 in
theorem copies_any {P : Nat → Prop} {X : Xl} {B N : Nat} (ok : Okx B X) {v : Value} {ds : List Dl} {w : World} (h : Dr P X v ds w) (hf : Few N ds) (hN : N ≤ 2513169434916) :
    Calls Tryz.prog 90 #[v] w fun e w' => ∃ v', e = .returned v' ∧ Dw w.heap.size v' ds w' ∧ Kp w w' := by
  obtain ⟨a, cap, rfl, h1, h2, h3⟩ := h.form
  obtain ⟨n, hn⟩ : ∃ n, ds.length = n := ⟨_, rfl⟩
  have HS : Hid (Dr P X (.slice a n cap) ds w ∧ ds.length = n ∧ Few N ds) := ⟨by rw [← hn]; exact h, hn, hf⟩
  have HE : Hid (ds.take n = ds) := by exact List.take_of_length_le (by omega)
  have hn9 : n ≤ 2513169434916 := by have := hf.1; omega
  rw [hn]
  clear h h1 h2 h3 hn hf
  go_enter Tryz.func90, Tryz.ntmps90
  go_wp2_with fail
  go_loopw [3, 8] (fun v3 v8 wr => ∃ (i : Nat) (a' : Option Addr) (c' : Nat), i ≤ n ∧ v8 = .int .i64 i ∧ v3 = .slice a' i c' ∧ Hid (Dw w.heap.size (.slice a' i c') (ds.take i) wr ∧ Kp w wr)) (fun _ v8 _ => n - (intOf v8).toNat)
  case atStart => exact ⟨0, none, 0, Nat.zero_le _, rfl, rfl, Dx.nil _ _ _, Below.refl _ _⟩
  case round =>
    obtain ⟨i, a', c', hi, rfl, rfl, HI⟩ := hrel
    by_cases q : i < n
    · have d1 : decide ((i : Int) < (n : Int)) = true := decide_eq_true (by omega)
      have d2 : decide (i < n) = true := decide_eq_true (by omega)
      obtain ⟨d, hd⟩ : ∃ d, ds[i]? = some d := ⟨_, List.getElem?_eq_getElem (by rw [HS.out.2.1]; exact q)⟩
      obtain ⟨g, o, x, y, rfl, _, c0, c1, c2, hx, hy⟩ := (HS.out.1.kp ok HI.out.2).at_ hd
      obtain ⟨xa, xc, rfl, _⟩ := (ok.sl hx).form
      obtain ⟨ya, yc, rfl, _⟩ := (ok.sl hy).form
      obtain ⟨xn, hxn⟩ : ∃ k, d.old.length = k := ⟨_, rfl⟩
      obtain ⟨yn, hyn⟩ : ∃ k, d.nw.length = k := ⟨_, rfl⟩
      rw [hxn] at c1 hx
      rw [hyn] at c2 hy
      have HX : Hid (X (.slice xa xn xc) d.old wr ∧ X (.slice ya yn yc) d.nw wr) := ⟨hx, hy⟩
      have HD : Hid (ds[i]? = some d) := hd
      clear hx hy hxn hyn hd
      have HL : Hid (d.old.length ≤ 8796093022208 ∧ d.nw.length ≤ 8796093022208) := HS.out.2.2.2 d (List.mem_of_getElem? HD.out)
      have HC1 : Hid (∀ W, Kp wr W → Calls Tryz.prog 77 #[.slice xa xn xc] W fun e w' => ∃ v', e = .returned v' ∧ Row W.heap.size v' d.old w' ∧ Kp W w') := fun W k => clone_all ((ok.sl HX.out.1).kp k) (by have := HL.out; omega)
      have HC2 : Hid (∀ W, Kp wr W → Calls Tryz.prog 77 #[.slice ya yn yc] W fun e w' => ∃ v', e = .returned v' ∧ Row W.heap.size v' d.nw w' ∧ Kp W w') := fun W k => clone_all ((ok.sl HX.out.2).kp k) (by have := HL.out; omega)
      go_upto_region 5 with fail
      have HB0 : Hid (Lc 89 wr.heap.size [.int .i64 d.at_, .slice xa xn xc, .slice ya yn yc] (wr.alloc (.cells #[.int .i64 d.at_, .slice xa xn xc, .slice ya yn yc] 89)) ∧ Kp wr (wr.alloc (.cells #[.int .i64 d.at_, .slice xa xn xc, .slice ya yn yc] 89))) := ⟨Lc.new wr _ _, kp_alloc _ _⟩
      generalize hW : wr.alloc (.cells #[.int .i64 d.at_, .slice xa xn xc, .slice ya yn yc] 89) = W1 at HB0 ⊢
      clear hW c0 c1 c2
      have c0 := HB0.out.1.at (j := 0) rfl
      have c1 := HB0.out.1.at (j := 1) rfl
      have c2 := HB0.out.1.at (j := 2) rfl
      refine wp_region_noPanic ?_
      refine wp_region_held_drew (S := fun z => z.cell? ⟨wr.heap.size, 0, none⟩ = some (.int .i64 d.at_) ∧ z.cell? ⟨wr.heap.size, 1, none⟩ = some (.slice xa xn xc) ∧ z.cell? ⟨wr.heap.size, 2, none⟩ = some (.slice ya yn yc)) (by kernel_rfl) (⟨c0, c1, c2⟩) (fun hHeld => ?_)
      refine takeAt 0 (some 12) ?_ rfl rfl (by kernel_rfl) (by kernel_rfl) (by kernel_rfl) (fun _ _ _ h => h) (Or.inl ⟨by rfl, ?_⟩) hHeld ?_
      rotate_left
      · intro w hSw
        go_simp <;> with_reducible rfl
      try simp only [Act.put, List.setIfInBounds_toArray, List.set_cons_zero, List.set_cons_succ]
      refine takeAt 1 (some 13) ?_ rfl rfl (by kernel_rfl) (by kernel_rfl) (by kernel_rfl) (fun _ _ _ h => h) (Or.inl ⟨by rfl, ?_⟩) hHeld ?_
      rotate_left
      · intro w hSw
        go_simp <;> with_reducible rfl
      try simp only [Act.put, List.setIfInBounds_toArray, List.set_cons_zero, List.set_cons_succ]
      refine takeAt 2 (some 14) ?_ rfl rfl (by kernel_rfl) (by kernel_rfl) (by kernel_rfl) (fun _ _ _ h => h) (Or.inl ⟨by rfl, ?_⟩) hHeld ?_
      rotate_left
      · intro w hSw
        go_simp <;> with_reducible rfl
      try simp only [Act.put, List.setIfInBounds_toArray, List.set_cons_zero, List.set_cons_succ]
      refine takeAt 3 (some 15) ?_ rfl rfl (by kernel_rfl) (by kernel_rfl) (by kernel_rfl) (fun _ _ _ h => h) (Or.inl ⟨by rfl, ?_⟩) hHeld ?_
      rotate_left
      · intro w hSw
        go_simp <;> with_reducible rfl
      try simp only [Act.put, List.setIfInBounds_toArray, List.set_cons_zero, List.set_cons_succ]
      refine takeAt 4 (some 16) ?_ rfl rfl (by kernel_rfl) (by kernel_rfl) (by kernel_rfl) (fun _ _ _ h => h) (Or.inl ⟨by rfl, ?_⟩) hHeld ?_
      rotate_left
      · intro w hSw
        go_simp <;> with_reducible rfl
      try simp only [Act.put, List.setIfInBounds_toArray, List.set_cons_zero, List.set_cons_succ]
      refine takeAt 6 (some 18) ?_ rfl rfl (by kernel_rfl) (by kernel_rfl) (by kernel_rfl) (fun _ _ _ h => h) (Or.inl ⟨by rfl, ?_⟩) hHeld ?_
      rotate_left
      · intro w hSw
        go_simp <;> with_reducible rfl
      try simp only [Act.put, List.setIfInBounds_toArray, List.set_cons_zero, List.set_cons_succ]
      refine takeAt 7 (some 19) ?_ rfl rfl (by kernel_rfl) (by kernel_rfl) (by kernel_rfl) (fun _ _ _ h => h) (Or.inl ⟨by rfl, ?_⟩) hHeld ?_
      rotate_left
      · intro w hSw
        go_simp <;> with_reducible rfl
      try simp only [Act.put, List.setIfInBounds_toArray, List.set_cons_zero, List.set_cons_succ]
      refine callAt 5 17 77 (vals := #[.slice xa xn xc]) (by kernel_rfl) rfl rfl rfl rfl (by simp [Act.eval]) Tryz.func77 (by kernel_rfl) (by kernel_rfl) ?_
      refine Calls.mono (HC1.out _ (kp_trans HB0.out.2 (by first | exact Below.refl _ _ | exact kp_drew _ | exact kp_trans (kp_drew _) (kp_drew _) | exact kp_drewN _ _))) ?_
      rintro e w2 ⟨v1, rfl, r1, k1⟩
      obtain ⟨a1, e1, rfl, _, _⟩ := r1.form
      have H2 : Hid (Row w.heap.size (.slice a1 d.old.length e1) d.old w2 ∧ Kp W1 w2) := ⟨row_lift r1 fun j hj => by have := (r1.lt j hj).1; have := k1.size; have := HB0.out.2.size; have := HI.out.2.size; have := (kp_drew W1).size; first | omega | (simp only [kp_drew_size] at *; omega), kp_trans (by first | exact Below.refl _ _ | exact kp_drew _ | exact kp_trans (kp_drew _) (kp_drew _) | exact kp_drewN _ _) k1⟩
      clear r1 k1
      refine ⟨_, rfl, ⟨kp_cell H2.out.2 c0, kp_cell H2.out.2 c1, kp_cell H2.out.2 c2⟩, fun hHeld => ?_⟩
      try simp only [Act.put, List.setIfInBounds_toArray, List.set_cons_zero, List.set_cons_succ]
      refine callAt 8 20 77 (vals := #[.slice ya yn yc]) (by kernel_rfl) rfl rfl rfl rfl (by simp [Act.eval]) Tryz.func77 (by kernel_rfl) (by kernel_rfl) ?_
      refine Calls.mono (HC2.out _ (kp_trans HB0.out.2 H2.out.2)) ?_
      rintro e w3 ⟨v2, rfl, r2, k2⟩
      obtain ⟨a2, e2, rfl, _, _⟩ := r2.form
      have H3 : Hid (Row w.heap.size (.slice a1 d.old.length e1) d.old w3 ∧ Row w.heap.size (.slice a2 d.nw.length e2) d.nw w3 ∧ Kp W1 w3) := ⟨row_kp H2.out.1 k2, row_lift r2 fun j hj => by have := (r2.lt j hj).1; have := H2.out.2.size; have := HB0.out.2.size; have := HI.out.2.size; omega, kp_trans H2.out.2 k2⟩
      clear r2 k2
      refine ⟨_, rfl, ⟨kp_cell H3.out.2.2 c0, kp_cell H3.out.2.2 c1, kp_cell H3.out.2.2 c2⟩, fun hHeld => ?_⟩
      try simp only [Act.put, List.setIfInBounds_toArray, List.set_cons_zero, List.set_cons_succ]
      refine takeAt 9 (some 21) ?_ rfl rfl (by kernel_rfl) (by kernel_rfl) (by kernel_rfl) (fun _ _ _ h => h) (Or.inl ⟨by rfl, ?_⟩) hHeld ?_
      rotate_left
      · intro w hSw
        go_simp <;> with_reducible rfl
      try simp only [Act.put, List.setIfInBounds_toArray, List.set_cons_zero, List.set_cons_succ]
      refine wpAnyH_ready (rs := [10]) (by kernel_rfl) (by simp) ?_
      refine AllReadyH.cons rfl (fun K hK => ?_) AllReadyH.nil
      go_simp
      refine hK.out _ _ (⟨kp_cell (kp_alloc _ _) hHeld.1, kp_cell (kp_alloc _ _) hHeld.2.1, kp_cell (kp_alloc _ _) hHeld.2.2⟩) (fun hHeld => ?_)
      clear hK K
      try simp only [Act.put, List.setIfInBounds_toArray, List.set_cons_zero, List.set_cons_succ]
      have H4 : Hid (Dw w.heap.size (.slice a' i c') (ds.take i) (w3.alloc (.cells #[.int .i64 d.at_, .slice a1 d.old.length e1, .slice a2 d.nw.length e2] 89)) ∧ Dr (fun _ => True) (Row w.heap.size) (.slice (some ⟨w3.heap.size, 0, none⟩) 1 1) [d] (w3.alloc (.cells #[.int .i64 d.at_, .slice a1 d.old.length e1, .slice a2 d.nw.length e2] 89)) ∧ w.heap.size ≤ (w3.alloc (.cells #[.int .i64 d.at_, .slice a1 d.old.length e1, .slice a2 d.nw.length e2] 89)).heap.size ∧ Kp wr (w3.alloc (.cells #[.int .i64 d.at_, .slice a1 d.old.length e1, .slice a2 d.nw.length e2] 89))) := by
        have k : Kp wr (w3.alloc (.cells #[.int .i64 d.at_, .slice a1 d.old.length e1, .slice a2 d.nw.length e2] 89)) := kp_more (kp_trans HB0.out.2 H3.out.2.2) _
        exact ⟨HI.out.1.kp (okRow _ _) k, Dr.one (row_kp H3.out.1 (kp_alloc _ _)) (row_kp H3.out.2.1 (kp_alloc _ _)) (Lc.new w3 _ _), by have := HI.out.2.size; have := k.size; omega, k⟩
      have HT : Hid ((ds.take i).length + [d].length = i + 1 ∧ ds.take (i + 1) = ds.take i ++ [d]) := ⟨by simp only [List.length_take, List.length_singleton]; have := HS.out.2.1; omega, take_snoc ds HD.out⟩
      refine wpAnyH_ready (rs := [11]) (by kernel_rfl) (by simp) ?_
      refine AllReadyH.cons rfl (fun K1 hK => ?_) AllReadyH.nil
      refine step_del (M := i + 1) rfl (.tmp 12) (.tmp 22) rfl (okRow _ _) rfl H4.out.1 rfl H4.out.2.1 HT.out.1 (by omega) H4.out.2.2.1 ?_
      intro a3 e3 w5 q1 q2 q3
      have HQ : Hid (Dw w.heap.size (.slice a3 (i + 1) e3) (ds.take (i + 1)) w5 ∧ Kp w w5) := ⟨by rw [HT.out.2]; exact q1, HI.out.2.trans (Below.trans (H4.out.2.2.2.mono HI.out.2.size) q3)⟩
      have hS5 : w5.cell? ⟨wr.heap.size, 0, none⟩ = some (.int .i64 d.at_) ∧ w5.cell? ⟨wr.heap.size, 1, none⟩ = some (.slice xa xn xc) ∧ w5.cell? ⟨wr.heap.size, 2, none⟩ = some (.slice ya yn yc) := by
        have hne : some wr.heap.size ≠ (Value.slice a' i c').ownBlock := fun e => by obtain ⟨cs, hr, _⟩ := HI.out.1; have := (hr.lt _ e.symm).2; omega
        have hlt := HB0.out.1.lt
        have hlt4 : wr.heap.size < (w3.alloc (.cells #[.int .i64 d.at_, .slice a1 d.old.length e1, .slice a2 d.nw.length e2] 89)).heap.size := by have := H3.out.2.2.size; rw [alloc_size]; omega
        refine ⟨?_, ?_, ?_⟩ <;> (rw [q2.cell_far _ hlt4 hne]; first | exact hHeld.1 | exact hHeld.2.1 | exact hHeld.2.2)
      clear q1 q2 q3
      change K1 (Act.put _ (some 23) (.slice a3 (i + 1) e3)) w5
      refine hK.out _ _ hS5 (fun hHeld => ?_)
      clear hK K1
      try simp only [Act.put, List.setIfInBounds_toArray, List.set_cons_zero, List.set_cons_succ]
      refine wpAnyH_ready (rs := [12]) (by kernel_rfl) (by simp) ?_
      refine AllReadyH.cons rfl (fun K hK => ?_) AllReadyH.nil
      go_simp
      refine hK.out _ _ (hHeld) (fun hHeld => ?_)
      clear hK K
      try simp only [Act.put, List.setIfInBounds_toArray, List.set_cons_zero, List.set_cons_succ]
      refine wpAnyH_done (by kernel_rfl) ?_ _
      refine NoPanic.normal ?_
      go_wp2_with fail
      go_roundw
      case rel => exact ⟨i + 1, a3, e3, by omega, by go_num, rfl, HQ.out⟩
      case measure => simp only [intOf]; omega
    · obtain rfl : i = n := by omega
      have d1 : decide ((i : Int) < (i : Int)) = false := by simp
      have HX : Hid (Dw w.heap.size (.slice a' i c') ds wr ∧ Kp w wr) := by
        have h1 := HI.out
        rw [HE.out] at h1
        exact h1
      clear HI
      go_wp2_with fail
      go_ret
      exact ⟨_, rfl, HX.out⟩
end Go.Proofs.YtaefeakmlgjonaaGreat
/- slices.Reverse of changes; undo.Turn. -/
namespace Go.Proofs.YtaefeakmlgjonaaGreat
open Go.ChangeShapes Go.WideShapes Go.ChangeAt Go.RowKit Go.Maps Go.MapKept
set_option linter.unusedVariables false
set_option linter.unusedSimpArgs false
set_option maxRecDepth 100000
theorem flat_set {a : Int} {x y : Value} {sp : List Value} : ∀ (cs : List Dv) (i : Nat), i < cs.length → (((flatV cs ++ sp).set (i * 3) (.int .i64 a)).set (i * 3 + 1) x).set (i * 3 + 2) y = flatV (cs.set i ⟨a, x, y⟩) ++ sp
  | [], i, h => by simp at h
  | c :: r, 0, h => rfl
  | c :: r, i + 1, h => by
    have q := flat_set (a := a) (x := x) (y := y) (sp := sp) r i (by simpa using h)
    rw [show (i + 1) * 3 = i * 3 + 1 + 1 + 1 by omega]
    simp only [flatV, List.cons_append, List.set_cons_succ]
    rw [q]
theorem flat_set2 {x y : Value} {sp : List Value} (cs : List Dv) (i : Nat) (c : Dv) (h : cs[i]? = some c) : ((flatV cs ++ sp).set (i * 3 + 1) x).set (i * 3 + 2) y = flatV (cs.set i ⟨c.a, x, y⟩) ++ sp := by
  have hl := (List.getElem?_eq_some_iff.1 h).1
  rw [← flat_set cs i hl]
  congr 2
  refine (List.ext_getElem? fun k => ?_).symm
  by_cases q : k = i * 3
  · subst q
    have := (flatV_at h).1
    rw [Nat.mul_comm 3 i] at this
    have hl3 := (List.getElem?_eq_some_iff.1 this).1
    rw [List.getElem?_set_self (by rw [List.length_append]; omega), List.getElem?_append_left hl3, this]
  · rw [List.getElem?_set_ne (Ne.symm q)]
section
variable {X : Xl} {B : Nat} {ds : List Dl} {w w' : World} {g n c : Nat}
/-- A row of changes, with what lies behind them in its block. -/
def Dg (X : Xl) (B g c : Nat) (cs : List Dv) (ds : List Dl) (w : World) : Prop := B ≤ g ∧ ds.length ≤ c ∧ c ≤ maxLen ∧ ∃ sp, Lc 89 g (flatV cs ++ sp) w ∧ (flatV cs ++ sp).length = c * 3 ∧ Say X cs ds w
theorem Dx.dg (h : Dx X B (.slice (some ⟨g, 0, none⟩) n c) ds w) : ds.length = n ∧ ∃ cs, Dg X B g c cs ds w := by
  obtain ⟨cs, h1, h2⟩ := h
  obtain ⟨a', c', e, _⟩ := owns_form h1
  cases e
  rcases h1.2 with ⟨e, _⟩ | ⟨g', cap, cur, e, hb, hg, p1, p2, p3, p4⟩
  · cases e
  cases e
  refine ⟨rfl, cs, hb, p1, p2, cur.toList.drop (ds.length * 3), ?_, ?_, h2⟩
  · unfold Lc; rw [← p4, List.take_append_drop]; exact hg
  · rw [← p4, List.take_append_drop, Array.length_toList]; exact p3
theorem Dg.dx {cs : List Dv} (h : Dg X B g c cs ds w) : Dx X B (.slice (some ⟨g, 0, none⟩) ds.length c) ds w := by
  obtain ⟨h1, h2, h3, sp, h4, h5, h6⟩ := h
  refine ⟨cs, ⟨by rw [flatV_len, h6.1]; omega, .inr ⟨g, c, _, rfl, h1, h4, h2, h3, by simpa using h5, ?_⟩⟩, h6⟩
  show (flatV cs ++ sp).take (ds.length * 3) = _
  rw [List.take_left' (by rw [flatV_len, h6.1]; omega)]
theorem grown_fr {o : Nat} (h : Fr (On o) w w') : w.grownBy w' (some o) := ⟨h.os, h.tape, h.output, h.size, fun k hk hn => h.block k hk fun e => hn (by rw [e])⟩
theorem Dg.lines {cs : List Dv} (h : Dg X B g c cs ds w) (ok : Okx B X) (f : Fr (On g) w w') {v : Value} {ls : List ByteArray} (hv : X v ls w) : X v ls w' := by
  obtain ⟨cs', r1, _⟩ := h.dx
  exact ok.grow (Nat.le_trans h.1 (Nat.le_of_lt (r1.lt g rfl).2)) hv r1 (grown_fr f)
/-- One of them is another. -/
theorem Dg.set {cs : List Dv} (h : Dg X B g c cs ds w) (ok : Okx B X) {i : Nat} {d : Dl} {x y : Value} (hi : i < ds.length) (hx : X x d.old w) (hy : X y d.nw w) :
    Dg X B g c (cs.set i ⟨d.at_, x, y⟩) (ds.set i d) (((w.setCell ⟨g, i * 3, none⟩ (.int .i64 d.at_)).setCell ⟨g, i * 3 + 1, none⟩ x).setCell ⟨g, i * 3 + 2, none⟩ y) ∧ Fr (On g) w (((w.setCell ⟨g, i * 3, none⟩ (.int .i64 d.at_)).setCell ⟨g, i * 3 + 1, none⟩ x).setCell ⟨g, i * 3 + 2, none⟩ y) := by
  have f : Fr (On g) w (((w.setCell ⟨g, i * 3, none⟩ (.int .i64 d.at_)).setCell ⟨g, i * 3 + 1, none⟩ x).setCell ⟨g, i * 3 + 2, none⟩ y) := ((fr_set _ _ _ _).trans (fr_set _ _ _ _)).trans (fr_set _ _ _ _)
  have L := fun {v : Value} {ls : List ByteArray} (q : X v ls w) => h.lines ok f q
  obtain ⟨h1, h2, h3, sp, h4, h5, h6⟩ := h
  have e := flat_set (a := d.at_) (x := x) (y := y) (sp := sp) cs i (by rw [h6.1]; exact hi)
  refine ⟨⟨h1, by rw [List.length_set]; exact h2, h3, sp, ?_, ?_, by rw [List.length_set, List.length_set]; exact h6.1, fun k d' c' k1 k2 => ?_⟩, f⟩
  · rw [← e]; exact ((h4.set _ _).set _ _).set _ _
  · rw [← e]; simpa using h5
  · by_cases q : k = i
    · subst q
      rw [List.getElem?_set_self hi] at k1
      rw [List.getElem?_set_self (by rw [h6.1]; exact hi)] at k2
      cases k1; cases k2
      exact ⟨rfl, L hx, L hy⟩
    · rw [List.getElem?_set_ne (Ne.symm q)] at k1 k2
      obtain ⟨r1, r2, r3⟩ := h6.2 k d' c' k1 k2
      exact ⟨r1, L r2, L r3⟩
theorem Dg.kp {cs : List Dv} (h : Dg X B g c cs ds w) (ok : Okx B X) (k : Kp w w') : Dg X B g c cs ds w' := by
  obtain ⟨h1, h2, h3, sp, h4, h5, h6⟩ := h
  exact ⟨h1, h2, h3, sp, h4.kp k, h5, h6.kp ok k⟩
theorem Dg.drew {cs : List Dv} (h : Dg X B g c cs ds w) (ok : Okx B X) (m : Nat) : Dg X B g c cs ds (w.drewN m) := h.kp ok (kp_drewN _ _)
theorem Dg.turn {cs : List Dv} (h : Dg X B g c cs ds w) (ok : Okx B X) {i : Nat} {d : Dl} {x y : Value} (hi : ds[i]? = some d) (hx : X x d.old w) (hy : X y d.nw w) :
    (∃ cs', Dg X B g c cs' (ds.set i ⟨d.at_, d.nw, d.old⟩) ((w.setCell ⟨g, i * 3 + 1, none⟩ y).setCell ⟨g, i * 3 + 2, none⟩ x)) ∧ Fr (On g) w ((w.setCell ⟨g, i * 3 + 1, none⟩ y).setCell ⟨g, i * 3 + 2, none⟩ x) := by
  have f : Fr (On g) w ((w.setCell ⟨g, i * 3 + 1, none⟩ y).setCell ⟨g, i * 3 + 2, none⟩ x) := (fr_set _ _ _ _).trans (fr_set _ _ _ _)
  have L := fun {v : Value} {ls : List ByteArray} (q : X v ls w) => h.lines ok f q
  obtain ⟨h1, h2, h3, sp, h4, h5, h6⟩ := h
  have hl := (List.getElem?_eq_some_iff.1 hi).1
  obtain ⟨c0, hc0⟩ : ∃ c0, cs[i]? = some c0 := ⟨_, List.getElem?_eq_getElem (by rw [h6.1]; exact hl)⟩
  have e := flat_set2 (x := y) (y := x) (sp := sp) cs i c0 hc0
  have e0 := (h6.2 i d c0 hi hc0).1
  refine ⟨⟨cs.set i ⟨c0.a, y, x⟩, h1, by rw [List.length_set]; exact h2, h3, sp, ?_, ?_, by rw [List.length_set, List.length_set]; exact h6.1, fun k d' c' k1 k2 => ?_⟩, f⟩
  · rw [← e]; exact (h4.set _ _).set _ _
  · rw [← e]; simpa using h5
  · by_cases q : k = i
    · subst q
      rw [List.getElem?_set_self hl] at k1
      rw [List.getElem?_set_self (by rw [h6.1]; exact hl)] at k2
      cases k1; cases k2
      exact ⟨e0, L hy, L hx⟩
    · rw [List.getElem?_set_ne (Ne.symm q)] at k1 k2
      obtain ⟨r1, r2, r3⟩ := h6.2 k d' c' k1 k2
      exact ⟨r1, L r2, L r3⟩
end
/-- l' is l, with so many at both ends in each other's place. -/
def Rvi {α : Type} (l : List α) (i : Nat) (l' : List α) : Prop := l'.length = l.length ∧ ∀ k, k < l.length → l'[k]? = if k < i ∨ l.length - i ≤ k then l[l.length - 1 - k]? else l[k]?
theorem Rvi.zero {α : Type} (l : List α) : Rvi l 0 l := ⟨rfl, fun k hk => by rw [if_neg (by omega)]⟩
theorem Rvi.step {α : Type} {l l' : List α} {i j : Nat} (h : Rvi l i l') (hj : i + j + 1 = l.length) (hij : i < j) {x y : α} (hx : l'[i]? = some x) (hy : l'[j]? = some y) : Rvi l (i + 1) ((l'.set i y).set j x) := by
  refine ⟨by rw [List.length_set, List.length_set]; exact h.1, fun k hk => ?_⟩
  rw [h.2 i (by omega), if_neg (by omega)] at hx
  rw [h.2 j (by omega), if_neg (by omega)] at hy
  by_cases q1 : k = j
  · subst q1
    rw [List.getElem?_set_self (by rw [List.length_set, h.1]; exact hk), if_pos (by omega), ← hx]
    congr 1; omega
  · rw [List.getElem?_set_ne (Ne.symm q1)]
    by_cases q2 : k = i
    · subst q2
      rw [List.getElem?_set_self (by rw [h.1]; exact hk), if_pos (by omega), ← hy]
      congr 1; omega
    · rw [List.getElem?_set_ne (Ne.symm q2), h.2 k hk]
      by_cases q3 : k < i ∨ l.length - i ≤ k
      · rw [if_pos q3, if_pos (by omega)]
      · rw [if_neg q3, if_neg (by omega)]
theorem Rvi.done {α : Type} {l l' : List α} {i : Nat} (h : Rvi l i l') (hi : l.length ≤ 2 * i + 1) : l' = l.reverse := by
  refine List.ext_getElem? fun k => ?_
  by_cases hk : k < l.length
  · rw [h.2 k hk, List.getElem?_reverse hk]
    by_cases q : k < i ∨ l.length - i ≤ k
    · rw [if_pos q]
    · rw [if_neg q]
      congr 1; omega
  · rw [List.getElem?_eq_none (by rw [h.1]; omega), List.getElem?_eq_none (by simp; omega)]
set_option maxHeartbeats 8000000 in
theorem revD_any {X : Xl} {B : Nat} (ok : Okx B X) {g n c : Nat} {ds : List Dl} {w : World} (h : Dx X B (.slice (some ⟨g, 0, none⟩) n c) ds w) (hn9 : n ≤ 2513169434916) :
    Calls Tryz.prog 117 #[.slice (some ⟨g, 0, none⟩) n c] w fun e w' => e = .returned (.tuple #[]) ∧ Dx X B (.slice (some ⟨g, 0, none⟩) n c) ds.reverse w' ∧ Fr (On g) w w' := by
  obtain ⟨hn, cs, hd⟩ := h.dg
  have HS : Hid (ds.length = n) := hn
  have HD : Hid (Dg X B g c cs ds w) := hd
  clear h hn hd
  go_enter Tryz.func117, Tryz.ntmps117
  go_wp2_with fail
  go_loopw [2, 3] (fun v2 v3 wr => ∃ (i : Nat) (j : Int), v2 = .int .i64 i ∧ v3 = .int .i64 j ∧ (i : Int) + j + 1 = n ∧ i ≤ n ∧ Hid (∃ cs' ds', Dg X B g c cs' ds' wr ∧ Rvi ds i ds' ∧ Fr (On g) w wr)) (fun v2 _ _ => n - (intOf v2).toNat)
  case atStart => exact ⟨0, (n : Int) - 1, rfl, by go_num, by omega, Nat.zero_le _, cs, ds, HD.out, Rvi.zero _, Fr.refl _ _⟩
  case round =>
    obtain ⟨i, j, rfl, rfl, hij, hin, HI⟩ := hrel
    by_cases q : (i : Int) < j
    · have d1 : decide ((i : Int) < j) = true := decide_eq_true q
      obtain ⟨j', rfl⟩ : ∃ j' : Nat, j = j' := ⟨j.toNat, by omega⟩
      have l1 : i < n := by omega
      have l2 : j' < n := by omega
      have e4 : ((j' : Int) - 1 : Int) = (j' : Int) - 1 := rfl
      obtain ⟨cs', ds', p1, p2, p3⟩ := HI.out
      have hL : ds'.length = n := by rw [p2.1, HS.out]
      obtain ⟨di, hdi⟩ : ∃ d, ds'[i]? = some d := ⟨_, List.getElem?_eq_getElem (by omega)⟩
      obtain ⟨dj, hdj⟩ : ∃ d, ds'[j']? = some d := ⟨_, List.getElem?_eq_getElem (by omega)⟩
      obtain ⟨g1, o1, xi, yi, e1, _, c0, c1, c2, x1, x2⟩ := p1.dx.dr.at_ hdi
      cases e1
      obtain ⟨g2, o2, xj, yj, e2, _, c3, c4, c5, x3, x4⟩ := p1.dx.dr.at_ hdj
      cases e2
      obtain ⟨a1, k1, rfl, _⟩ := (ok.sl x1).form
      obtain ⟨a2, k2, rfl, _⟩ := (ok.sl x2).form
      obtain ⟨a3, k3, rfl, _⟩ := (ok.sl x3).form
      obtain ⟨a4, k4, rfl, _⟩ := (ok.sl x4).form
      obtain ⟨sp, hlc⟩ : ∃ l, Lc 89 g l wr := by obtain ⟨_, _, _, sp, q, _⟩ := p1; exact ⟨_, q⟩
      have f0 := hlc.fz (i * 3)
      have f1 := hlc.fz (i * 3 + 1)
      have f2 := hlc.fz (i * 3 + 2)
      have f3 := hlc.fz (j' * 3)
      have f4 := hlc.fz (j' * 3 + 1)
      have f5 := hlc.fz (j' * 3 + 2)
      simp only [Nat.zero_add] at c0 c1 c2 c3 c4 c5
      obtain ⟨n1, hn1⟩ : ∃ k, di.old.length = k := ⟨_, rfl⟩
      obtain ⟨n2, hn2⟩ : ∃ k, di.nw.length = k := ⟨_, rfl⟩
      obtain ⟨n3, hn3⟩ : ∃ k, dj.old.length = k := ⟨_, rfl⟩
      obtain ⟨n4, hn4⟩ : ∃ k, dj.nw.length = k := ⟨_, rfl⟩
      rw [hn1] at c1 x1
      rw [hn2] at c2 x2
      rw [hn3] at c4 x3
      rw [hn4] at c5 x4
      have HQ : Hid (∀ m, ∃ cs' ds', Dg X B g c cs' ds' (((((((wr.setCell ⟨g, i * 3, none⟩ (.int .i64 dj.at_)).setCell ⟨g, i * 3 + 1, none⟩ (.slice a3 n3 k3)).setCell ⟨g, i * 3 + 2, none⟩ (.slice a4 n4 k4)).setCell ⟨g, j' * 3, none⟩ (.int .i64 di.at_)).setCell ⟨g, j' * 3 + 1, none⟩ (.slice a1 n1 k1)).setCell ⟨g, j' * 3 + 2, none⟩ (.slice a2 n2 k2)).drewN m) ∧ Rvi ds (i + 1) ds' ∧ Fr (On g) w (((((((wr.setCell ⟨g, i * 3, none⟩ (.int .i64 dj.at_)).setCell ⟨g, i * 3 + 1, none⟩ (.slice a3 n3 k3)).setCell ⟨g, i * 3 + 2, none⟩ (.slice a4 n4 k4)).setCell ⟨g, j' * 3, none⟩ (.int .i64 di.at_)).setCell ⟨g, j' * 3 + 1, none⟩ (.slice a1 n1 k1)).setCell ⟨g, j' * 3 + 2, none⟩ (.slice a2 n2 k2)).drewN m)) := fun m => by
        obtain ⟨r1, r2⟩ := p1.set ok (i := i) (d := dj) (by omega) x3 x4
        obtain ⟨r3, r4⟩ := r1.set ok (i := j') (d := di) (by rw [List.length_set]; omega) (p1.lines ok r2 x1) (p1.lines ok r2 x2)
        exact ⟨_, _, r3.drew ok m, p2.step (by rw [HS.out]; omega) (by omega) hdi hdj, ((p3.trans r2).trans r4).trans (Fr.drewN _ _ _)⟩
      clear HI x1 x2 x3 x4 hlc p1 p2 p3 hdi hdj hL hn1 hn2 hn3 hn4 HD
      have hij2 : i ≠ j' := by omega
      go_wp2_with fail
      go_region
      go_wp2_with fail
      exact ⟨⟨i + 1, (j' : Int) - 1, by go_num, by go_num, by omega, by omega, HQ.out 1⟩, by simp only [intOf]; omega⟩
    · have d1 : decide ((i : Int) < j) = false := decide_eq_false q
      have HX : Hid (Dx X B (.slice (some ⟨g, 0, none⟩) n c) ds.reverse wr ∧ Fr (On g) w wr) := by
        obtain ⟨cs', ds', p1, p2, p3⟩ := HI.out
        have e := p2.done (by rw [HS.out]; omega)
        subst e
        have := p1.dx
        rw [List.length_reverse, HS.out] at this
        exact ⟨this, p3⟩
      clear HI
      go_wp2_with fail
      first | go_end0 | refine bodyPost_ret (results_none rfl _ _ _) rfl ?_
      exact ⟨rfl, HX.out⟩
set_option maxHeartbeats 2000000 in
theorem revD_nil (w : World) : Calls Tryz.prog 117 #[.slice none 0 0] w fun e w' => e = .returned (.tuple #[]) ∧ w' = w := by
  go_enter Tryz.func117, Tryz.ntmps117
  go_wp2_with fail
  go_loopw [2, 3] (fun v2 v3 wr => v2 = .int .i64 0 ∧ v3 = .int .i64 (-1) ∧ wr = w) (fun _ _ _ => 0)
  case atStart => exact ⟨rfl, rfl, rfl⟩
  case round =>
    obtain ⟨rfl, rfl, rfl⟩ := hrel
    have d1 : decide ((0 : Int) < -1) = false := by decide
    go_wp2_with fail
    first | go_end0 | refine bodyPost_ret (results_none rfl _ _ _) rfl ?_
    exact ⟨rfl, rfl⟩
/-- A change turned. -/
def tn (d : Dl) : Dl := ⟨d.at_, d.nw, d.old⟩
/-- Changes that undo others, in their order. -/
def turnD (ds : List Dl) : List Dl := ds.reverse.map tn
theorem turnD_len (ds : List Dl) : (turnD ds).length = ds.length := by simp [turnD]
theorem set_take {α : Type} (l : List α) (f : α → α) {i : Nat} {x : α} (h : l[i]? = some x) : ((l.take i).map f ++ l.drop i).set i (f x) = (l.take (i + 1)).map f ++ l.drop (i + 1) := by
  have hl := (List.getElem?_eq_some_iff.1 h).1
  refine List.ext_getElem? fun k => ?_
  have e1 : ((l.take i).map f).length = i := by simp; omega
  have e2 : ((l.take (i + 1)).map f).length = i + 1 := by simp; omega
  by_cases q : k = i
  · subst q
    rw [List.getElem?_set_self (by simp; omega), List.getElem?_append_left (by omega), List.getElem?_map, List.getElem?_take, if_pos (by omega), h]; rfl
  · rw [List.getElem?_set_ne (Ne.symm q)]
    by_cases q2 : k < i
    · rw [List.getElem?_append_left (by omega), List.getElem?_append_left (by omega), List.getElem?_map, List.getElem?_map, List.getElem?_take, List.getElem?_take, if_pos q2, if_pos (by omega)]
    · rw [List.getElem?_append_right (by omega), List.getElem?_append_right (by omega), e1, e2, List.getElem?_drop, List.getElem?_drop]
      congr 1; omega
set_option maxHeartbeats 8000000 in
theorem turn_any {P : Nat → Prop} {X : Xl} {B N : Nat} (ok : Okx B X) {v : Value} {ds : List Dl} {w : World} (h : Dr P X v ds w) (hf : Few N ds) (hN : N ≤ 2513169434916) :
    Calls Tryz.prog 74 #[v] w fun e w' => ∃ v', e = .returned v' ∧ Dw w.heap.size v' (turnD ds) w' ∧ Kp w w' := by
  have HC : Hid _ := copies_any ok h hf hN
  obtain ⟨a, cap, rfl, _⟩ := h.form
  obtain ⟨n, hn⟩ : ∃ n, ds.length = n := ⟨_, rfl⟩
  have HN : Hid (ds.length = n) := hn
  have hn9 : n ≤ 2513169434916 := by have := hf.1; omega
  rw [hn] at HC ⊢
  clear h hn hf
  go_enter Tryz.func74, Tryz.ntmps74
  go_wp2_with fail
  refine Calls.mono HC.out ?_
  rintro e w1 ⟨v1, rfl, q1, k1⟩
  clear HC
  by_cases h0 : ds = []
  · subst h0
    obtain ⟨cs, r1, r2⟩ := q1
    rcases r1.2 with ⟨rfl, _⟩ | ⟨g, c', cur, rfl, hb, hg, p1, p2, p3, p4⟩
    · have HK : Hid (Kp w w1) := k1
      have HR : Hid _ := revD_nil w1
      clear k1 r1 r2
      go_wp2_with fail
      refine Calls.mono HR.out ?_
      rintro e w2 ⟨rfl, rfl⟩
      clear HR
      go_wp2_with fail
      go_loopw [12] (fun v12 wr => v12 = .int .i64 0 ∧ wr = w2) (fun _ _ => 0)
      case atStart => exact ⟨rfl, rfl⟩
      case round =>
        obtain ⟨rfl, rfl⟩ := hrel
        have d1 : decide ((0 : Int) < 0) = false := by decide
        go_wp2_with fail
        go_ret
        exact ⟨_, rfl, Dx.nil _ _ _, HK.out⟩
    · have HK : Hid (Kp w w1) := k1
      have q0 : Dw w.heap.size (.slice (some ⟨g, 0, none⟩) 0 c') [] w1 := ⟨cs, r1, r2⟩
      have HR : Hid _ := revD_any (okRow _ _) q0 (by omega)
      have hgw : Hid (w.heap.size ≤ g) := hb
      clear k1 r1 r2 q0 hb hg p1 p2 p3 p4
      go_wp2_with fail
      refine Calls.mono HR.out ?_
      rintro e w2 ⟨rfl, q2, f2⟩
      have HX : Hid (Dw w.heap.size (.slice (some ⟨g, 0, none⟩) 0 c') [] w2 ∧ Kp w w2) := ⟨q2, HK.out.trans (f2.below HK.out.size fun k hk e => by have := hgw.out; unfold On at e; omega)⟩
      clear HR HK q2 f2
      go_wp2_with fail
      go_loopw [12] (fun v12 wr => v12 = .int .i64 0 ∧ wr = w2) (fun _ _ => 0)
      case atStart => exact ⟨rfl, rfl⟩
      case round =>
        obtain ⟨rfl, rfl⟩ := hrel
        have d1 : decide ((0 : Int) < 0) = false := by decide
        go_wp2_with fail
        go_ret
        exact ⟨_, rfl, HX.out⟩
  · obtain ⟨a1, c1, rfl, _, _⟩ := q1.form
    obtain ⟨g, rfl, hgw⟩ : ∃ g, a1 = some ⟨g, 0, none⟩ ∧ w.heap.size ≤ g := by
      obtain ⟨cs, r1, r2⟩ := q1
      rcases r1.2 with ⟨e, e0⟩ | ⟨g, c', cur, e, hb, _⟩
      · exact absurd (List.eq_nil_of_length_eq_zero e0) h0
      · cases e; exact ⟨g, rfl, hb⟩
    rw [HN.out] at q1 ⊢
    have HK : Hid (Kp w w1 ∧ w.heap.size ≤ g) := ⟨k1, hgw⟩
    have HR : Hid _ := revD_any (okRow _ _) q1 (by omega)
    clear k1 q1 h0 hgw
    go_wp2_with fail
    refine Calls.mono HR.out ?_
    rintro e w2 ⟨rfl, q2, f2⟩
    have HX : Hid (Dw w.heap.size (.slice (some ⟨g, 0, none⟩) n c1) ds.reverse w2 ∧ Kp w w2) := ⟨q2, HK.out.1.trans (f2.below HK.out.1.size fun k hk e => by have := HK.out.2; unfold On at e; omega)⟩
    have HG : Hid (w.heap.size ≤ g) := HK.out.2
    clear HR HK q2 f2
    go_wp2_with fail
    go_loopw [12] (fun v12 wr => ∃ i : Nat, i ≤ n ∧ v12 = .int .i64 i ∧ Hid (Dw w.heap.size (.slice (some ⟨g, 0, none⟩) n c1) ((ds.reverse.take i).map tn ++ ds.reverse.drop i) wr ∧ Kp w wr)) (fun v12 _ => n - (intOf v12).toNat)
    case atStart => exact ⟨0, Nat.zero_le _, rfl, HX.out⟩
    case round =>
      obtain ⟨i, hi, rfl, HI⟩ := hrel
      by_cases q : i < n
      · have d1 : decide ((i : Int) < (n : Int)) = true := decide_eq_true (by omega)
        have d2 : decide (i < n) = true := decide_eq_true (by omega)
        obtain ⟨d, hd⟩ : ∃ d, ds.reverse[i]? = some d := ⟨_, List.getElem?_eq_getElem (by rw [List.length_reverse, HN.out]; exact q)⟩
        have hd2 : ((ds.reverse.take i).map tn ++ ds.reverse.drop i)[i]? = some d := by
          have e1 : ((ds.reverse.take i).map tn).length = i := by simp; have := HN.out; omega
          rw [List.getElem?_append_right (by omega), e1, Nat.sub_self, List.getElem?_drop, Nat.add_zero]; exact hd
        obtain ⟨hln, cs', p1⟩ := HI.out.1.dg
        obtain ⟨g1, o1, x, y, e1, _, c0, c2, c3, x1, x2⟩ := HI.out.1.dr.at_ hd2
        cases e1
        obtain ⟨a1, k1, rfl, _⟩ := ((okRow w.heap.size w.heap.size).sl x1).form
        obtain ⟨a2, k2, rfl, _⟩ := ((okRow w.heap.size w.heap.size).sl x2).form
        obtain ⟨sp, hlc⟩ : ∃ l, Lc 89 g l wr := by obtain ⟨_, _, _, sp, q, _⟩ := p1; exact ⟨_, q⟩
        have f1 := hlc.fz (i * 3 + 1)
        have f2 := hlc.fz (i * 3 + 2)
        simp only [Nat.zero_add] at c0 c2 c3
        obtain ⟨n1, hn1⟩ : ∃ k, d.old.length = k := ⟨_, rfl⟩
        obtain ⟨n2, hn2⟩ : ∃ k, d.nw.length = k := ⟨_, rfl⟩
        rw [hn1] at c2 x1
        rw [hn2] at c3 x2
        have HQ : Hid (∀ m, Dw w.heap.size (.slice (some ⟨g, 0, none⟩) n c1) ((ds.reverse.take (i + 1)).map tn ++ ds.reverse.drop (i + 1)) (((wr.setCell ⟨g, i * 3 + 1, none⟩ (.slice a2 n2 k2)).setCell ⟨g, i * 3 + 2, none⟩ (.slice a1 n1 k1)).drewN m) ∧ Kp w (((wr.setCell ⟨g, i * 3 + 1, none⟩ (.slice a2 n2 k2)).setCell ⟨g, i * 3 + 2, none⟩ (.slice a1 n1 k1)).drewN m)) := fun m => by
          obtain ⟨⟨cs2, r1⟩, r2⟩ := p1.turn (okRow _ _) hd2 x1 x2
          have r3 := (r1.drew (okRow _ _) m).dx
          have e5 := set_take ds.reverse tn hd
          rw [List.length_set, hln] at r3
          rw [← e5]
          exact ⟨r3, HI.out.2.trans ((r2.trans (Fr.drewN _ _ _)).below HI.out.2.size fun k hk e => by have := HG.out; unfold On at e; omega)⟩
        clear HI x1 x2 hlc p1 hd hd2 hn1 hn2 HX hln
        go_wp2_with fail
        go_region
        go_wp2_with fail
        exact ⟨⟨i + 1, by omega, by go_num, HQ.out 1⟩, by simp only [intOf]; omega⟩
      · obtain rfl : i = n := by omega
        have d1 : decide ((i : Int) < (i : Int)) = false := by simp
        have HY : Hid (Dw w.heap.size (.slice (some ⟨g, 0, none⟩) i c1) (turnD ds) wr ∧ Kp w wr) := by
          have h1 := HI.out
          rw [List.take_of_length_le (by rw [List.length_reverse, HN.out]; exact Nat.le_refl _), List.drop_eq_nil_of_le (by rw [List.length_reverse, HN.out]; exact Nat.le_refl _), List.append_nil] at h1
          exact h1
        clear HI HX
        go_wp2_with fail
        go_ret
        exact ⟨_, rfl, HY.out⟩
end Go.Proofs.YtaefeakmlgjonaaGreat
