/- Texts that the proof of the law stands on: MB, MM, MK, MF, MS, ML, QB, QI. -/
import Derived.Test.YtmceophmdkcgcaaProg
import Derived.Test.YtmceophmdkcgcaaChecked
import Derived.Maps.RangeWalk
import Derived.Maps.Ext
import Derived.WalkKit
import Derived.ProofKit
import Derived.OpenShut
import Derived.Maps.AppendAt
import Derived.Deep.AppendLies
import Derived.Laws.IdiomStrings
import Derived.Laws.EntriesVeiled
import Derived.WalkSmall
import Derived.BigCall
import Derived.BigQuiet
import Derived.BigRegion
import Derived.Deep.QuietTactic
import Derived.Below
import Derived.LoopTactic
import Derived.RegionTactic
import Derived.Deep.RegionLaw
import Derived.Deep.RegionWith
import Derived.Deep.MidRow
import Derived.Laws.AppendOwn
import Derived.WalkLawsBesides
import Derived.Deep.Cut
import Derived.Deep.CutRange
import Derived.Laws.AppendOwnNone
import Derived.Laws.Concat
import Derived.Shelf.Abstract
import Derived.Sort.LotA
import Derived.Sort.LotB
import Derived.Sort.LotC
/- What memory holds, and what a call leaves as it was. -/
namespace Go.Proofs.Ytmceophmdkcgcaa
open Go.ChangeShapes Go.WideShapes Go.ChangeAt Go.RowKit
set_option linter.unusedVariables false
set_option linter.unusedSimpArgs false
theorem drewN_heap (w : World) (n : Nat) : (w.drewN n).heap = w.heap := by induction n generalizing w <;> simp_all [World.drewN]
theorem drew2 (w : World) (a b : Nat) : (w.drewN a).drewN b = w.drewN (a + b) := by
  have e : ∀ (n : Nat) (w : World), w.drewN n = { w with drawn := w.drawn + n } := by
    intro n
    induction n with
    | zero => intro w; rfl
    | succ n ih => intro w; simp [World.drewN, World.drew, ih, Nat.add_assoc, Nat.add_comm 1 n]
  simp [e, Nat.add_assoc]
theorem heap_setCell {w : World} {b off : Nat} {v : Value} {cur : Array Value} {e : TypeId} {fr : Nat × Nat} (hg : w.heap[b]? = some (.cells cur e fr)) :
    (w.setCell ⟨b, off, none⟩ v).heap[b]? = some (.cells (cur.setIfInBounds off v) e fr) := by
  have hlt : b < w.heap.size := (Array.getElem?_eq_some_iff.1 hg).1
  simp [World.setCell, Array.getElem?_modify, hg]
theorem heap_setCell_other {w : World} {b off k : Nat} {v : Value} (hk : k ≠ b) : (w.setCell ⟨b, off, none⟩ v).heap[k]? = w.heap[k]? := by
  simp [World.setCell, Array.getElem?_modify, Ne.symm hk]
theorem size_setCell (w : World) (a : Addr) (v : Value) : (w.setCell a v).heap.size = w.heap.size := by simp [World.setCell]
theorem alloc_new (w : World) (ob : Obj) : (w.alloc ob).heap[w.heap.size]? = some ob := by show (w.heap.push ob)[w.heap.size]? = _; simp
theorem alloc_old (w : World) (ob : Obj) (k : Nat) (hk : k < w.heap.size) : (w.alloc ob).heap[k]? = w.heap[k]? := by
  show (w.heap.push ob)[k]? = _; rw [Array.getElem?_push_lt hk, Array.getElem?_eq_getElem hk]
theorem alloc_size (w : World) (ob : Obj) : (w.alloc ob).heap.size = w.heap.size + 1 := by show (w.heap.push ob).size = _; simp

/-- From w to w' no block that was there has turned but those of which 'S' speaks. -/
structure Fr (S : Nat → Prop) (w w' : World) : Prop where
  os : w'.os = w.os
  tape : w'.tape = w.tape
  output : w'.output = w.output
  size : w.heap.size ≤ w'.heap.size
  block : ∀ k, k < w.heap.size → ¬ S k → w'.heap[k]? = w.heap[k]?
section
variable {S S' : Nat → Prop} {w w1 w2 : World}
theorem Fr.refl (S : Nat → Prop) (w : World) : Fr S w w := ⟨rfl, rfl, rfl, Nat.le_refl _, fun _ _ _ => rfl⟩
theorem Fr.trans' (h : Fr S w w1) (h' : Fr S' w1 w2) (hs : ∀ k, k < w.heap.size → S' k → S k) : Fr S w w2 :=
  ⟨h'.os.trans h.os, h'.tape.trans h.tape, h'.output.trans h.output, Nat.le_trans h.size h'.size,
   fun k hk hn => (h'.block k (Nat.lt_of_lt_of_le hk h.size) (fun hq => hn (hs k hk hq))).trans (h.block k hk hn)⟩
theorem Fr.trans (h : Fr S w w1) (h' : Fr S w1 w2) : Fr S w w2 := h.trans' h' fun _ _ q => q
theorem Fr.mono (h : Fr S w w1) (hs : ∀ k, k < w.heap.size → S k → S' k) : Fr S' w w1 := ⟨h.os, h.tape, h.output, h.size, fun k hk hn => h.block k hk fun q => hn (hs k hk q)⟩
theorem Fr.drewN (S : Nat → Prop) (w : World) (n : Nat) : Fr S w (w.drewN n) := by
  refine ⟨?_, ?_, ?_, by rw [drewN_heap]; exact Nat.le_refl _, fun _ _ _ => by rw [drewN_heap]⟩
  all_goals (induction n generalizing w <;> simp_all [World.drewN])
theorem Fr.setCell {b off : Nat} {v : Value} (hS : S b) (w : World) : Fr S w (w.setCell ⟨b, off, none⟩ v) :=
  ⟨rfl, rfl, rfl, by rw [size_setCell]; exact Nat.le_refl _, fun k _ hn => heap_setCell_other fun e => hn (e ▸ hS)⟩
theorem Fr.alloc (S : Nat → Prop) (w : World) (ob : Obj) : Fr S w (w.alloc ob) := ⟨rfl, rfl, rfl, by rw [alloc_size]; omega, fun k hk _ => alloc_old w ob k hk⟩
theorem Fr.below {B : Nat} (h : Fr S w w1) (hB : B ≤ w.heap.size) (hS : ∀ k, k < B → ¬ S k) : Below B w w1 := ⟨h.os, h.tape, h.output, h.size, fun k hk => h.block k (by omega) (hS k hk)⟩
theorem Fr.of_below (h : Below w.heap.size w w1) : Fr S w w1 := ⟨h.os, h.tape, h.output, h.size, fun k hk _ => h.block k hk⟩
end
/-- This one block. -/
def On (b k : Nat) : Prop := k = b
theorem fr_set (b off : Nat) (v : Value) (w : World) : Fr (On b) w (w.setCell ⟨b, off, none⟩ v) := Fr.setCell (S := On b) rfl w
/-- Nothing that was there has turned. -/
abbrev Kp (w w' : World) : Prop := Below w.heap.size w w'
theorem kp_drewN (w : World) (q : Nat) : Kp w (w.drewN q) := (Fr.drewN (fun _ => False) w q).below (Nat.le_refl _) fun _ _ h => h
theorem kp_alloc (w : World) (ob : Obj) : Kp w (w.alloc ob) := (Below.refl _ w).alloc (Nat.le_refl _) ob
theorem kp_trans {a b c : World} (h : Kp a b) (k : Kp b c) : Kp a c := h.trans (k.mono h.size)

theorem Fr.new {S : Nat → Prop} {w w1 : World} {n off : Nat} {v : Value} (h : Fr S w w1) (hn : w.heap.size ≤ n) : Fr S w (w1.setCell ⟨n, off, none⟩ v) :=
  ⟨h.os, h.tape, h.output, by rw [size_setCell]; exact h.size, fun k hk hS => by rw [heap_setCell_other (by omega)]; exact h.block k hk hS⟩
theorem Fr.frAlloc {S : Nat → Prop} {w w1 : World} {ob : Obj} (h : Fr S (w.alloc ob) w1) : Fr S w w1 := (Fr.alloc S w ob).trans h
/-- A byte of a text, nought behind its end. -/
def byteAt (s : ByteArray) (k : Nat) : Nat := ((s.data.toList[k]?).map UInt8.toNat).getD 0
theorem byteAt_lt (s : ByteArray) (k : Nat) : byteAt s k < 256 := by
  unfold byteAt
  cases s.data.toList[k]? with
  | none => simp
  | some b => simpa using b.toNat_lt
theorem byteAt_eq (s : ByteArray) (k : Nat) (h : k < s.size) : byteAt s k = (s[k]).toNat := by
  have : s.data.toList[k]? = some (s[k]) := by
    rw [List.getElem?_eq_getElem (by simpa using h)]; rfl
  unfold byteAt; rw [this]; rfl

theorem cell_at {w : World} {b : Nat} {e : TypeId} {cur : Array Value} {fr : Nat × Nat} (hg : w.heap[b]? = some (.cells cur e fr)) (j : Nat) : w.cell? ⟨b, j, none⟩ = cur[j]? := by simp [World.cell?, hg]
theorem kp_cell {w w1 : World} (k : Kp w w1) {a : Addr} {u : Value} (h : w.cell? a = some u) : w1.cell? a = some u := by
  rw [World.cell?_of_block (k.block _ ?_)]
  · exact h
  · rcases Nat.lt_or_ge a.block w.heap.size with q | q
    · exact q
    · simp [World.cell?, Array.getElem?_eq_none q] at h
theorem addr_add (g j : Nat) : (⟨g, 0, none⟩ : Addr).add j = ⟨g, j, none⟩ := by unfold Addr.add; split <;> simp_all
theorem kp_drew_size (w : World) : w.drew.heap.size = w.heap.size := rfl
theorem kp_drew (w : World) : Kp w w.drew := kp_drewN w 1
section
variable {w w1 : World} {B : Nat} {v : Value}
theorem row_kp {e : TypeId} {size n : Nat} {xs : List Value} (hr : w.ownsRow B e size v n xs) (h : Kp w w1) : w1.ownsRow B e size v n xs := by
  refine ⟨hr.1, ?_⟩
  rcases hr.2 with q | ⟨b, cap, cur, rfl, hb, hg, rest⟩
  · exact .inl q
  · exact .inr ⟨b, cap, cur, rfl, hb, by rw [h.block b (hr.lt b rfl).2]; exact hg, rest⟩
theorem row_fr {e : TypeId} {size n : Nat} {xs : List Value} {S : Nat → Prop} (hr : w.ownsRow B e size v n xs) (h : Fr S w w1) (hn : ∀ j, v.ownBlock = some j → ¬ S j) : w1.ownsRow B e size v n xs := by
  refine ⟨hr.1, ?_⟩
  rcases hr.2 with q | ⟨b, cap, cur, rfl, hb, hg, rest⟩
  · exact .inl q
  · exact .inr ⟨b, cap, cur, rfl, hb, by rw [h.block b (hr.lt b rfl).2 (hn b rfl)]; exact hg, rest⟩
theorem row_lift {e : TypeId} {B' size n : Nat} {xs : List Value} (hr : w.ownsRow B e size v n xs) (h : ∀ j, v.ownBlock = some j → B' ≤ j) : w.ownsRow B' e size v n xs := by
  refine ⟨hr.1, ?_⟩
  rcases hr.2 with q | ⟨b, cap, cur, rfl, hb, hg, rest⟩
  · exact .inl q
  · exact .inr ⟨b, cap, cur, rfl, h b rfl, hg, rest⟩
theorem owns_form {size n : Nat} {e : TypeId} {xs : List Value} (h : w.ownsRow B e size v n xs) : ∃ a cap, v = .slice a n cap ∧ n ≤ cap ∧ cap ≤ maxLen := by
  rcases h.2 with ⟨rfl, rfl⟩ | ⟨b, cap, cur, rfl, _, _, h1, h2, _⟩
  · exact ⟨none, 0, rfl, Nat.le_refl _, by simp [maxLen]⟩
  · exact ⟨_, cap, rfl, h1, h2⟩
end
theorem info_parts {t : TypeId} {z : Option Value} {a b : Nat} (h : (Try.prog.info? t).map (fun i => (i.zero, i.size, i.bytes)) = some (z, a, b)) : ∃ i, Try.prog.info? t = some i ∧ i.zero = z ∧ i.size = a ∧ i.bytes = b := by
  obtain ⟨i, h1, h2⟩ := Option.map_eq_some_iff.1 h
  simp only [Prod.mk.injEq] at h2
  exact ⟨i, h1, h2.1, h2.2.1, h2.2.2⟩
theorem infoUB : (Try.prog.info? 5).map (fun i => (i.zero, i.size, i.bytes)) = some (some (.int .u8 0), 1, 1) := by kernel_rfl
def Lc (T : TypeId) (b : Nat) (l : List Value) (w : World) : Prop := w.heap[b]? = some (.cells l.toArray T (0, 0))
section
variable {T : TypeId} {b : Nat} {l : List Value} {w w1 : World}
theorem Lc.lt (h : Lc T b l w) : b < w.heap.size := (Array.getElem?_eq_some_iff.1 h).1
theorem Lc.cell (h : Lc T b l w) (j : Nat) : w.cell? ⟨b, j, none⟩ = l[j]? := by rw [cell_at h]; exact List.getElem?_toArray
theorem Lc.at (h : Lc T b l w) {j : Nat} {v : Value} (hj : l[j]? = some v) : w.cell? ⟨b, j, none⟩ = some v := by rw [h.cell, hj]
theorem Lc.fz (h : Lc T b l w) (j : Nat) : w.frozen? ⟨b, j, none⟩ = false := by unfold Lc at h; simp [World.frozen?, h]
theorem Lc.new (w : World) (l : List Value) (T : TypeId) : Lc T w.heap.size l (w.alloc (.cells l.toArray T)) := alloc_new w _
theorem Lc.heap (h : Lc T b l w) (he : w1.heap[b]? = w.heap[b]?) : Lc T b l w1 := by unfold Lc at h ⊢; rw [he]; exact h
theorem Lc.kp (h : Lc T b l w) (k : Kp w w1) : Lc T b l w1 := h.heap (k.block b h.lt)
theorem Lc.fr {S : Nat → Prop} (h : Lc T b l w) (k : Fr S w w1) (hn : ¬ S b) : Lc T b l w1 := h.heap (k.block b h.lt hn)
theorem Lc.set (h : Lc T b l w) (j : Nat) (v : Value) : Lc T b (l.set j v) (w.setCell ⟨b, j, none⟩ v) := by
  unfold Lc at h ⊢; rw [heap_setCell h, List.setIfInBounds_toArray]
theorem Lc.other (h : Lc T b l w) {n off : Nat} {v : Value} (hn : n ≠ b) : Lc T b l (w.setCell ⟨n, off, none⟩ v) := h.heap (heap_setCell_other (Ne.symm hn))
theorem kp_new {w0 : World} (k : Kp w0 w) {n off : Nat} {v : Value} (hn : w0.heap.size ≤ n) : Kp w0 (w.setCell ⟨n, off, none⟩ v) :=
  ⟨k.os, k.tape, k.output, by rw [size_setCell]; exact k.size, fun j hj => by rw [heap_setCell_other (by omega)]; exact k.block j hj⟩
theorem kp_more {w0 : World} (k : Kp w0 w) (o : Obj) : Kp w0 (w.alloc o) := kp_trans k (kp_alloc _ _)
end
/-- A list's elements from a place on are these. -/
def sets (l : List Value) : Nat → List Value → List Value
  | _, [] => l
  | o, v :: r => sets (l.set o v) (o + 1) r
section
variable {T : TypeId} {b : Nat} {l : List Value} {w w1 : World}
theorem Lc.sets : ∀ {l : List Value} {w : World} (vs : List Value) (o : Nat), Lc T b l w → Lc T b (sets l o vs) (w.setCells b o vs)
  | l, w, [], o, h => h
  | l, w, v :: r, o, h => Lc.sets r (o + 1) (h.set o v)
theorem fr_sets (b : Nat) : ∀ (vs : List Value) (o : Nat) (w : World), Fr (On b) w (w.setCells b o vs)
  | [], o, w => Fr.refl _ _
  | v :: r, o, w => (fr_set b o v w).trans (fr_sets b r (o + 1) _)
theorem size_sets (b : Nat) : ∀ (vs : List Value) (o : Nat) (w : World), (w.setCells b o vs).heap.size = w.heap.size
  | [], o, w => rfl
  | v :: r, o, w => (size_sets b r (o + 1) _).trans (size_setCell _ _ _)
theorem Lc.range (h : Lc T b l w) (o : Nat) {cs : List Value} (hc : ∀ j v, cs[j]? = some v → l[o + j]? = some v) : w.rangeAt b o cs := fun j v hj => h.at (hc j v hj)
theorem Lc.there (h : Lc T b l w) {o n : Nat} (hn : o + n ≤ l.length) : w.there b o n := fun j hj => ⟨by rw [h.cell, List.getElem?_eq_getElem (by omega)]; rfl, h.fz _⟩
variable {ops : Array Oper} {rest : List Oper} {op : Oper} {a : Act} {Q : Exit → Act → World → Prop}
theorem wpList_load_box (h : Lc T b l w) (o : Nat) (cs : List Value) (hgd : op.guard = none) (ty : TypeId) (x : Operand) (ho : op.op = .load ty x) (hx : a.eval x = .pointer (some ⟨b, o, none⟩)) (hc : (l.drop o).take cs.length = cs)
    (d : TypeDesc) (hu : Try.prog.underlying ty = some d) (hd : d.isRow = true) (hi : (Try.prog.info? ty).map (·.size) = some cs.length)
    (k : wpList Try.prog ops Q rest (a.put op.dst (.agg cs.toArray)) w) : wpList Try.prog ops Q (op :: rest) a w := by
  refine wpList_load_mid hgd ty x ho b o hx cs d (h.range o fun j v hj => ?_) hu hd hi k
  have hl := (List.getElem?_eq_some_iff.1 hj).1
  rw [← hc, List.getElem?_take_of_lt hl, List.getElem?_drop] at hj
  exact hj
theorem wpList_store_box (h : Lc T b l w) (o : Nat) (cs : List Value) (hgd : op.guard = none) (ty : TypeId) (x y : Operand) (ho : op.op = .store ty x y) (hx : a.eval x = .pointer (some ⟨b, o, none⟩)) (hy : a.eval y = .agg cs.toArray)
    (hf : o + cs.length ≤ l.length) (hi : (Try.prog.info? ty).map (·.size) = some cs.length) (h1 : ∀ v ∈ cs, v.oneCell' = true) {l' : List Value} (hl : Go.Proofs.Ytmceophmdkcgcaa.sets l o cs = l')
    (k : ∀ w', Lc T b l' w' → Fr (On b) w w' → w'.heap.size = w.heap.size → wpList Try.prog ops Q rest (a.put op.dst undef) w') : wpList Try.prog ops Q (op :: rest) a w := by
  refine wpList_store_mid hgd ty x y ho b o cs.toArray hx hy ?_ (by simpa using hi) (all_oneCell_toArray h1) ?_
  · have : cs.toArray.size = cs.length := by simp
    rw [this]; exact h.there hf
  · have e : cs.toArray.toList = cs := by simp
    rw [e]
    exact k _ (hl ▸ h.sets cs o) (fr_sets _ _ _ _) (size_sets _ _ _ _)
theorem results_box1 {fn : Func} {t : Tmp} {ty : TypeId} (hr : fn.results = #[.cell t ty]) {tmps : Array Value} (hp : tmps.getD t undef = .pointer (some ⟨b, 0, none⟩)) (h : Lc T b l w)
    {d : TypeDesc} (hu : Try.prog.underlying ty = some d) (hd : d.isRow = true) (hi : (Try.prog.info? ty).map (·.size) = some l.length) :
    (results fn tmps).run Try.prog w = .ok (.agg l.toArray) w := by
  have := run_loadVar_mid (P := Try.prog) w b 0 ty l d (h.range 0 fun j v hj => by rw [Nat.zero_add]; exact hj) hu hd hi
  rw [Array.getD_eq_getD_getElem?] at hp
  simp [results, hr, hp, asAddr, this]
theorem results_box2 {fn : Func} {t u : Tmp} {ty : TypeId} (hr : fn.results = #[.cell t ty, .tmp u]) {tmps : Array Value} (hp : tmps.getD t undef = .pointer (some ⟨b, 0, none⟩)) (h : Lc T b l w)
    {d : TypeDesc} (hu : Try.prog.underlying ty = some d) (hd : d.isRow = true) (hi : (Try.prog.info? ty).map (·.size) = some l.length) :
    (results fn tmps).run Try.prog w = .ok (.tuple #[.agg l.toArray, tmps.getD u undef]) w := by
  have := run_loadVar_mid (P := Try.prog) w b 0 ty l d (h.range 0 fun j v hj => by rw [Nat.zero_add]; exact hj) hu hd hi
  rw [Array.getD_eq_getD_getElem?] at hp
  simp [results, hr, hp, asAddr, this]
theorem results_box3 {fn : Func} {t u v : Tmp} {ty : TypeId} (hr : fn.results = #[.cell t ty, .tmp u, .tmp v]) {tmps : Array Value} (hp : tmps.getD t undef = .pointer (some ⟨b, 0, none⟩)) (h : Lc T b l w)
    {d : TypeDesc} (hu : Try.prog.underlying ty = some d) (hd : d.isRow = true) (hi : (Try.prog.info? ty).map (·.size) = some l.length) :
    (results fn tmps).run Try.prog w = .ok (.tuple #[.agg l.toArray, tmps.getD u undef, tmps.getD v undef]) w := by
  have := run_loadVar_mid (P := Try.prog) w b 0 ty l d (h.range 0 fun j v hj => by rw [Nat.zero_add]; exact hj) hu hd hi
  rw [Array.getD_eq_getD_getElem?] at hp
  simp [results, hr, hp, asAddr, this]
end
section
variable {w w1 : World} {u u' : Value} {T T' : TypeId} {m m' : Nat} {l l' : List Value}
theorem row_ne {B n size : Nat} {e : TypeId} {xs : List Value} (hr : w.ownsRow B e size u n xs) (hm : Lc T m l w) (hT : T ≠ e) : u.ownBlock ≠ some m := by
  intro q
  rcases hr.2 with ⟨z, _⟩ | ⟨b, cap, cur, z, hb, hg, _⟩
  · rw [z] at q; cases q
  · rw [z] at q
    simp only [Value.ownBlock, Option.some.injEq] at q
    subst q
    unfold Lc at hm
    rw [hm] at hg
    injection hg with hg
    injection hg with _ hg
    exact hT hg
theorem row_row {B n size B' n' size' : Nat} {e e' : TypeId} {xs xs' : List Value} (hr : w.ownsRow B e size u n xs) (hr' : w.ownsRow B' e' size' u' n' xs') (hT : e ≠ e') : ∀ j, u.ownBlock = some j → u'.ownBlock ≠ some j := by
  intro j q q'
  rcases hr.2 with ⟨z, _⟩ | ⟨b, cap, cur, z, hb, hg, _⟩
  · rw [z] at q; cases q
  rcases hr'.2 with ⟨z', _⟩ | ⟨b', cap', cur', z', hb', hg', _⟩
  · rw [z'] at q'; cases q'
  rw [z] at q
  rw [z'] at q'
  simp only [Value.ownBlock, Option.some.injEq] at q q'
  subst q
  subst q'
  rw [hg] at hg'
  injection hg' with hg'
  injection hg' with _ hg'
  exact hT hg'
theorem lc_ne (h : Lc T m l w) (h' : Lc T' m' l' w) (hT : T ≠ T') : m ≠ m' := by
  rintro rfl
  unfold Lc at h h'
  rw [h] at h'
  injection h' with h'
  injection h' with _ h'
  exact hT h'
end
/-- Bytes as they lie in memory. -/
def bcs (l : List UInt8) : List Value := l.map fun b => Value.int .u8 b.toNat
theorem bcs_len (l : List UInt8) : (bcs l).length = l.length := by simp [bcs]
theorem bcs_append (a b : List UInt8) : bcs (a ++ b) = bcs a ++ bcs b := by simp [bcs]
theorem bcs_one (l : List UInt8) : ∀ u ∈ bcs l, u.oneCell' = true := fun u hu => by
  obtain ⟨b, _, rfl⟩ := List.mem_map.1 hu
  rfl
theorem drop_at {S : ByteArray} {i : Nat} (h : i < S.size) : S.data.toList.drop i = S[i] :: S.data.toList.drop (i + 1) := by
  rw [List.drop_eq_getElem_cons (by simpa using h)]
  rfl
end Go.Proofs.Ytmceophmdkcgcaa
/- A map whose keys are bytes, as a function from a byte to what stands at it; a range over one that is under way. -/
namespace Go.Proofs.Ytmceophmdkcgcaa
open Go.ChangeShapes Go.WideShapes Go.ChangeAt Go.RowKit Go.Maps Go.MapKept
open Go.ChangeMaps (setBlock heap_setBlock_same heap_setBlock_other modify_eq_set)
set_option linter.unusedVariables false
set_option linter.unusedSimpArgs false
theorem keyUB : Keyed Try.prog 5 := int_keyed Try.underlying5
theorem keyB {x : Int} (h0 : 0 ≤ x) (h1 : x < 256) : keyOf Try.prog 5 (.int .u8 x) = some (.int .u8 x) :=
  keyOf_int_mk Try.underlying5 (by
    show (decide (IntKind.u8.min ≤ x) && decide (x ≤ IntKind.u8.max)) = true
    have e1 : IntKind.u8.min = 0 := by decide
    have e2 : IntKind.u8.max = 255 := by decide
    rw [e1, e2, Bool.and_eq_true, decide_eq_true_eq, decide_eq_true_eq]; omega)
/-- The entries say f. -/
structure Hld (es : Array MapEntry) (f : Int → Option Value) : Prop where
  on : ∀ e ∈ es.toList, ∃ x, e.key = .int .u8 x ∧ 0 ≤ x ∧ x < 256 ∧ f x = some e.val
  at_ : ∀ x v, f x = some v → ∃ e ∈ es.toList, e.key = .int .u8 x ∧ e.val = v
/-- At block b lies a map that says f. -/
def Mp (b : Nat) (f : Int → Option Value) (w : World) : Prop := ∃ es clock, w.heap[b]? = some (.map es clock) ∧ Stamped es clock ∧ Hld es f
def upd (f : Int → Option Value) (x : Int) (v : Option Value) : Int → Option Value := fun y => if y = x then v else f y
section
variable {b r : Nat} {f : Int → Option Value} {w w1 : World}
theorem Mp.lt (h : Mp b f w) : b < w.heap.size := by obtain ⟨es, c, h, _⟩ := h; exact (Array.getElem?_eq_some_iff.1 h).1
theorem Mp.heap (h : Mp b f w) (he : w1.heap[b]? = w.heap[b]?) : Mp b f w1 := by obtain ⟨es, c, h, r⟩ := h; exact ⟨es, c, he.trans h, r⟩
theorem Mp.kp (h : Mp b f w) (k : Kp w w1) : Mp b f w1 := h.heap (k.block b h.lt)
theorem Mp.fr {S : Nat → Prop} (h : Mp b f w) (k : Fr S w w1) (hn : ¬ S b) : Mp b f w1 := h.heap (k.block b h.lt hn)
theorem Mp.ne {T : TypeId} {t : Nat} {l : List Value} (h : Mp b f w) (k : Lc T t l w) : t ≠ b := by
  rintro rfl; obtain ⟨es, c, h, _⟩ := h; unfold Lc at k; rw [k] at h; cases h
theorem Mp.range (h : Mp b f w) {x : Int} {v : Value} (hx : f x = some v) : 0 ≤ x ∧ x < 256 := by
  obtain ⟨es, c, _, _, H⟩ := h
  obtain ⟨e, he, hk, _⟩ := H.at_ x v hx
  obtain ⟨y, hy, h0, h1, _⟩ := H.on e he
  rw [hk] at hy; cases hy; exact ⟨h0, h1⟩
theorem Hld.one {es : Array MapEntry} {clock : Nat} (H : Hld es f) (S : Stamped es clock) {e e' : MapEntry} (h : e ∈ es.toList) (h' : e' ∈ es.toList) (hk : e.key = e'.key) : e = e' := entry_eq_of_key ((stamped_iff es clock).1 S).2.2 h h' hk
theorem at_key {es : Array MapEntry} {c : Nat} (S : Stamped es c) {i j : Nat} {e e' : MapEntry} (hi : es.toList[i]? = some e) (hj : es.toList[j]? = some e') (hk : e.key = e'.key) : i = j := by
  have hp := ((stamped_iff es c).1 S).2.2
  rw [List.pairwise_iff_getElem] at hp
  obtain ⟨li, rfl⟩ := List.getElem?_eq_some_iff.1 hi
  obtain ⟨lj, rfl⟩ := List.getElem?_eq_some_iff.1 hj
  rcases Nat.lt_trichotomy i j with q | q | q
  · exact absurd hk (hp i j li lj q)
  · exact q
  · exact absurd hk.symm (hp j i lj li q)
theorem Hld.keys {es : Array MapEntry} (H : Hld es f) : ∀ e ∈ es.toList, ∃ l, keyOf Try.prog 5 e.key = some l := fun e he => by
  obtain ⟨x, hx, h0, h1, _⟩ := H.on e he
  exact ⟨_, by rw [hx]; exact keyB h0 h1⟩
theorem fr_block (w : World) (b : Nat) (o : Obj) (hb : b < w.heap.size) : Fr (On b) w (setBlock w b o) :=
  ⟨rfl, rfl, rfl, by simp [setBlock], fun k hk hn => by unfold On at hn; simp [setBlock, Array.getElem?_setIfInBounds, Ne.symm hn]⟩
/-- Looked up. -/
theorem Mp.look (h : Mp b f w) {x : Int} (h0 : 0 ≤ x) (h1 : x < 256) {t e : TypeId} (ht : Try.prog.underlying t = some (.map 5 e)) {z : Value} (hz : (zeroValue e).run Try.prog w = .ok z w) (ok : Bool) :
    (Instr.lookup t (.map (some b)) (.int .u8 x) ok).run Try.prog w = .ok (if ok then .tuple #[(f x).getD z, .bool (f x).isSome] else (f x).getD z) w := by
  obtain ⟨es, c, hb, S, H⟩ := h
  rcases keyUB.find w (keyB h0 h1) es.toList H.keys with ⟨h2, h3⟩ | ⟨j, e0, h2, h3, h4⟩
  · have hn : f x = none := by
      cases q : f x with
      | none => rfl
      | some v => obtain ⟨e, he, hk, _⟩ := H.at_ x v q; exact absurd hk (h3 e he)
    simp [Instr.lookup, run_underlying ht, MapKept.run_getObj_map hb, keyUB.check w _ (keyB h0 h1), h2, hz, Result.andThen, hn]
  · have hs : f x = some e0.val := by
      obtain ⟨y, hy, _, _, hv⟩ := H.on e0 (List.mem_of_getElem? h3)
      rw [h4] at hy; cases hy; exact hv
    simp [Instr.lookup, run_underlying ht, MapKept.run_getObj_map hb, keyUB.check w _ (keyB h0 h1), h2, Result.andThen, hs]
/-- Stored: the entries behind it, and what has become of each. -/
theorem store_who {es : Array MapEntry} {c : Nat} (hb : w.heap[b]? = some (.map es c)) (S : Stamped es c) (H : Hld es f) {x : Int} (h0 : 0 ≤ x) (h1 : x < 256) {t e : TypeId} (ht : Try.prog.underlying t = some (.map 5 e)) (v : Value) :
    ∃ es' c', (Instr.mapUpdate t (.map (some b)) (.int .u8 x) v).run Try.prog w = .ok () (setBlock w b (.map es' c')) ∧ Stamped es' c' ∧ Hld es' (upd f x (some v)) ∧
      (f x ≠ none → c' = c ∧ es'.toList.map (·.born) = es.toList.map (·.born) ∧ es'.toList.map (·.key) = es.toList.map (·.key)) := by
  rcases keyUB.find w (keyB h0 h1) es.toList H.keys with ⟨h2, h3⟩ | ⟨j, e0, h2, h3, h4⟩
  · refine ⟨es.push ⟨.int .u8 x, v, c⟩, c + 1, ?_, stamped_push S h3, ⟨fun e he => ?_, fun y u hy => ?_⟩, fun hn => ?_⟩
    · simp [Instr.mapUpdate, run_underlying ht, MapKept.run_getObj_map hb, keyUB.check w false (keyB h0 h1), h2, MapKept.run_setObj_map _ hb, Result.andThen, setBlock]
    · simp only [Array.toList_push, List.mem_append, List.mem_singleton] at he
      rcases he with he | rfl
      · obtain ⟨y, hy, y0, y1, hv⟩ := H.on e he
        have : y ≠ x := fun q => h3 e he (by rw [hy, q])
        exact ⟨y, hy, y0, y1, by unfold upd; rw [if_neg this]; exact hv⟩
      · exact ⟨x, rfl, h0, h1, by unfold upd; rw [if_pos rfl]⟩
    · unfold upd at hy
      split at hy
      · rename_i q; subst q; cases hy
        exact ⟨⟨.int .u8 y, v, c⟩, by simp, rfl, rfl⟩
      · obtain ⟨e, he, r⟩ := H.at_ y u hy
        exact ⟨e, by simp [he], r⟩
    · exfalso
      cases q : f x with
      | none => exact hn q
      | some u => obtain ⟨e, he, hk, _⟩ := H.at_ x u q; exact h3 e he hk
  · have hj : es[j]? = some e0 := by simpa using h3
    have hjl : j < es.toList.length := (List.getElem?_eq_some_iff.1 h3).1
    have hm0 : e0 ∈ es.toList := List.mem_of_getElem? h3
    have hlist : (es.modify j (fun e' => { e' with key := .int .u8 x, val := v })).toList = es.toList.set j { e0 with key := .int .u8 x, val := v } := by rw [Array.toList_modify, modify_eq_set _ _ _ _ h3]
    refine ⟨es.modify j (fun e' => { e' with key := .int .u8 x, val := v }), c, ?_, stamped_modify S j _ (fun _ _ => rfl) (fun e' _ he' => by rw [hj] at he'; cases he'; exact h4.symm), ⟨fun e he => ?_, fun y u hy => ?_⟩, fun _ => ⟨rfl, ?_, ?_⟩⟩
    · have hk : (Instr.keyThatStays e0.key (.int .u8 x)).run Try.prog w = .ok (.int .u8 x) w := by rw [h4]; exact keyUB.stays w (keyB h0 h1)
      simp [Instr.mapUpdate, run_underlying ht, MapKept.run_getObj_map hb, keyUB.check w false (keyB h0 h1), h2, hj, hk, MapKept.run_setObj_map _ hb, Result.andThen, setBlock]
    · rw [hlist] at he
      obtain ⟨i, hi⟩ := List.getElem?_of_mem he
      by_cases q : i = j
      · subst q
        rw [List.getElem?_set_self hjl] at hi
        cases hi
        exact ⟨x, rfl, h0, h1, by unfold upd; rw [if_pos rfl]⟩
      · rw [List.getElem?_set_ne (Ne.symm q)] at hi
        obtain ⟨y, hy, y0, y1, hv⟩ := H.on e (List.mem_of_getElem? hi)
        have : y ≠ x := fun p => q (at_key S hi h3 (by rw [hy, h4, p]))
        exact ⟨y, hy, y0, y1, by unfold upd; rw [if_neg this]; exact hv⟩
    · rw [hlist]
      unfold upd at hy
      split at hy
      · rename_i q; subst q; cases hy
        exact ⟨{ e0 with key := .int .u8 y, val := v }, List.mem_of_getElem? (List.getElem?_set_self hjl), rfl, rfl⟩
      · rename_i q
        obtain ⟨e, he, hk, hu⟩ := H.at_ y u hy
        obtain ⟨i, hi⟩ := List.getElem?_of_mem he
        have hij : i ≠ j := fun p => by
          subst p; rw [h3] at hi; cases hi; rw [h4] at hk; cases hk; exact q rfl
        exact ⟨e, List.mem_of_getElem? (by rw [List.getElem?_set_ne (Ne.symm hij)]; exact hi), hk, hu⟩
    · rw [hlist, List.map_set]
      refine List.ext_getElem? fun i => ?_
      by_cases q : i = j
      · subst q; rw [List.getElem?_set_self (by simpa using hjl), List.getElem?_map, h3]; rfl
      · rw [List.getElem?_set_ne (Ne.symm q)]
    · rw [hlist, List.map_set]
      refine List.ext_getElem? fun i => ?_
      by_cases q : i = j
      · subst q; rw [List.getElem?_set_self (by simpa using hjl), List.getElem?_map, h3, Option.map_some, h4]
      · rw [List.getElem?_set_ne (Ne.symm q)]
/-- Stored. -/
theorem Mp.store (h : Mp b f w) {x : Int} (h0 : 0 ≤ x) (h1 : x < 256) {t e : TypeId} (ht : Try.prog.underlying t = some (.map 5 e)) (v : Value) :
    ∃ w', (Instr.mapUpdate t (.map (some b)) (.int .u8 x) v).run Try.prog w = .ok () w' ∧ Mp b (upd f x (some v)) w' ∧ Fr (On b) w w' ∧ w'.heap.size = w.heap.size := by
  have hl := h.lt
  obtain ⟨es, c, hb, S, H⟩ := h
  obtain ⟨es', c', hr, S', H', _⟩ := store_who hb S H h0 h1 ht v
  exact ⟨_, hr, ⟨es', c', heap_setBlock_same hb _, S', H'⟩, fr_block w b _ hl, by simp [setBlock]⟩
/-- Taken out: who is left. -/
theorem drop_who {es : Array MapEntry} {c : Nat} (hb : w.heap[b]? = some (.map es c)) (S : Stamped es c) (H : Hld es f) {x : Int} (h0 : 0 ≤ x) (h1 : x < 256) {t e ty : TypeId} (ht : Try.prog.underlying t = some (.map 5 e)) :
    ∃ es', (Builtin.delete_ #[t, 5] ty #[.map (some b), .int .u8 x]).run Try.prog w = .ok (.tuple #[]) (setBlock w b (.map es' c)) ∧ Stamped es' c ∧ Hld es' (upd f x none) ∧ es'.toList.Sublist es.toList := by
  rcases keyUB.find w (keyB h0 h1) es.toList H.keys with ⟨h2, h3⟩ | ⟨j, e0, h2, h3, h4⟩
  · refine ⟨es, ?_, S, ⟨fun e he => ?_, fun y u hy => ?_⟩, List.Sublist.refl _⟩
    · simp [Builtin.delete_, run_underlying ht, MapKept.run_getObj_map hb, keyUB.check w _ (keyB h0 h1), h2, MapKept.run_setObj_map _ hb, Result.andThen, setBlock]
    · obtain ⟨y, hy, y0, y1, hv⟩ := H.on e he
      have : y ≠ x := fun q => h3 e he (by rw [hy, q])
      exact ⟨y, hy, y0, y1, by unfold upd; rw [if_neg this]; exact hv⟩
    · unfold upd at hy
      split at hy
      · cases hy
      · exact H.at_ y u hy
  · have hjl : j < es.toList.length := (List.getElem?_eq_some_iff.1 h3).1
    have hjs : j < es.size := by simpa using hjl
    have hsub : (es.eraseIdxIfInBounds j).toList = es.toList.eraseIdx j := by
      unfold Array.eraseIdxIfInBounds
      rw [dif_pos hjs]
      simp
    refine ⟨es.eraseIdxIfInBounds j, ?_, stamped_erase S j, ⟨fun e he => ?_, fun y u hy => ?_⟩, by rw [hsub]; exact List.eraseIdx_sublist _ _⟩
    · simp [Builtin.delete_, run_underlying ht, MapKept.run_getObj_map hb, keyUB.check w _ (keyB h0 h1), h2, MapKept.run_setObj_map _ hb, Result.andThen, setBlock]
    · rw [hsub, List.mem_eraseIdx_iff_getElem?] at he
      obtain ⟨i, hne, hi⟩ := he
      obtain ⟨y, hy, y0, y1, hv⟩ := H.on e (List.mem_of_getElem? hi)
      have : y ≠ x := fun p => hne (at_key S hi h3 (by rw [hy, h4, p]))
      exact ⟨y, hy, y0, y1, by unfold upd; rw [if_neg this]; exact hv⟩
    · unfold upd at hy
      split at hy
      · cases hy
      · rename_i q
        obtain ⟨e, he, hk, hu⟩ := H.at_ y u hy
        obtain ⟨i, hi⟩ := List.getElem?_of_mem he
        have hij : i ≠ j := fun p => by
          subst p; rw [h3] at hi; cases hi; rw [h4] at hk; cases hk; exact q rfl
        exact ⟨e, by rw [hsub, List.mem_eraseIdx_iff_getElem?]; exact ⟨i, hij, hi⟩, hk, hu⟩
/-- A range over the map at b is under way, its iterator at r: 'left' are the keys that are still to come, c of them. -/
def Rgg (b r : Nat) (f : Int → Option Value) (left : Int → Bool) (c : Nat) (w : World) : Prop :=
  ∃ es clock since seen c0, w.heap[b]? = some (.map es clock) ∧ Stamped es clock ∧ Hld es f ∧ w.heap[r]? = some (.mapIter (some b) since seen c0) ∧ (∀ x ∈ es.toList, x.born < since) ∧ (leftOf es seen).size = c ∧
    (∀ e ∈ es.toList, ∀ x, e.key = .int .u8 x → left x = !seen.contains e.born) ∧ (∀ x, left x = true → f x ≠ none) ∧ since ≤ c0 ∧ since ≤ clock
variable {left : Int → Bool} {c : Nat}
theorem Rgg.map (h : Rgg b r f left c w) : Mp b f w := by obtain ⟨es, cl, _, _, _, hb, S, H, _⟩ := h; exact ⟨es, cl, hb, S, H⟩
theorem Rgg.ne (h : Rgg b r f left c w) : r ≠ b := by
  obtain ⟨es, cl, s, q, c0, hb, _, _, hr, _⟩ := h
  intro e; rw [e, hb] at hr; cases hr
theorem Rgg.lt (h : Rgg b r f left c w) : r < w.heap.size := by obtain ⟨es, cl, s, q, c0, hb, _, _, hr, _⟩ := h; exact (Array.getElem?_eq_some_iff.1 hr).1
theorem Rgg.heap (h : Rgg b r f left c w) (hb : w1.heap[b]? = w.heap[b]?) (hr : w1.heap[r]? = w.heap[r]?) : Rgg b r f left c w1 := by
  obtain ⟨es, cl, s, q, c0, h1, h2, h3, h4, rest⟩ := h
  exact ⟨es, cl, s, q, c0, hb.trans h1, h2, h3, hr.trans h4, rest⟩
theorem Rgg.kp (h : Rgg b r f left c w) (k : Kp w w1) : Rgg b r f left c w1 := h.heap (k.block b h.map.lt) (k.block r h.lt)
theorem Rgg.left_eq (h : Rgg b r f left c w) : w.rangeLeft b r = c := by
  obtain ⟨es, cl, s, q, c0, hb, _, _, hr, _, hc, _⟩ := h
  simp only [World.rangeLeft, hb, hr]
  exact hc
/-- A range begins. -/
theorem Mp.ranged (h : Mp b f w) {t e : TypeId} (ht : Try.prog.underlying t = some (.map 5 e)) :
    ∃ w' c, (Instr.range t (.map (some b))).run Try.prog w = .ok (.pointer (some ⟨w.heap.size, 0, none⟩)) w' ∧ Rgg b w.heap.size f (fun x => (f x).isSome) c w' ∧ Kp w w' ∧ w'.heap.size = w.heap.size + 1 := by
  have hlt := h.lt
  obtain ⟨es, cl, hb, S, H⟩ := h
  refine ⟨_, _, run_range_map w t 5 e b es cl ht hb, ⟨es, cl, cl, #[], cl, (alloc_old _ _ b hlt).trans hb, S, H, alloc_new _ _, ((stamped_iff es cl).1 S).1, rfl, fun e he x hx => ?_, fun x hx => ?_, Nat.le_refl _, Nat.le_refl _⟩, kp_alloc _ _, by rw [alloc_size]⟩
  · obtain ⟨y, hy, _, _, hv⟩ := H.on e he
    rw [hx] at hy; cases hy
    simp [hv]
  · intro q; simp [q] at hx
/-- One more comes, or none is left. -/
theorem Rgg.next (h : Rgg b r f left c w) (ty : TypeId) :
    ((∀ x, left x = false) ∧ (Instr.next (.pointer (some ⟨r, 0, none⟩)) false ty).run Try.prog w = .ok (.tuple #[.bool false]) w) ∨
    ∃ x v w' c', 0 ≤ x ∧ x < 256 ∧ left x = true ∧ f x = some v ∧ (Instr.next (.pointer (some ⟨r, 0, none⟩)) false ty).run Try.prog w = .ok (.tuple #[.bool true, .int .u8 x, v]) w' ∧
      Rgg b r f (fun y => left y && !decide (y = x)) c' w' ∧ c' < c ∧ Fr (On r) w w' ∧ w'.heap.size = w.heap.size ∧ (Instr.entry (.pointer (some ⟨r, 0, none⟩))).run Try.prog w' = .ok (.tuple #[.int .u8 x, v]) w' := by
  have hne := h.ne
  have hrl := h.lt
  obtain ⟨es, cl, since, seen, c0, hb, S, H, hr, hold, rfl, hl1, hl2, hsc, hsk⟩ := h
  rcases run_next_at (P := Try.prog) w ty r b since c0 seen es cl hr hb hold hsc with ⟨h0, hrun⟩ | ⟨e, he, w1, hal, hrun⟩
  · refine Or.inl ⟨fun x => ?_, hrun⟩
    cases hx : left x with
    | false => rfl
    | true =>
      cases q : f x with
      | none => exact absurd q (hl2 x hx)
      | some v =>
        obtain ⟨e, he, hk, _⟩ := H.at_ x v q
        rw [hl1 e he x hk, all_seen es seen h0 e he] at hx; cases hx
  · obtain ⟨hem, hes⟩ := mem_left he
    obtain ⟨x, hx, x0, x1, hv⟩ := H.on e hem
    have hr1 : w1.heap[r]? = some (.mapIter (some b) since seen c0) := by rcases hal with rfl | rfl <;> exact hr
    have hb1 : w1.heap[b]? = some (.map es cl) := by rcases hal with rfl | rfl <;> exact hb
    have hset := heap_set (o' := .mapIter (some b) since (seen.push e.born) cl) hr1
    have hb' : (setBlock w1 r (.mapIter (some b) since (seen.push e.born) cl)).heap[b]? = some (.map es cl) := (hset.2 b (fun e1 => hne e1.symm)).trans hb1
    rw [hx] at hrun
    refine Or.inr ⟨x, e.val, _, _, x0, x1, by rw [hl1 e hem x hx, hes]; rfl, hv, hrun, ⟨es, cl, since, seen.push e.born, cl, hb', S, H, hset.1, hold, rfl, fun e' he' y hy => ?_, fun y hy => hl2 y (by simp at hy; exact hy.1), hsk, hsk⟩, left_shrinks es seen e he, ?_, ?_, ?_⟩
    · show (left y && !decide (y = x)) = _
      rw [hl1 e' he' y hy, contains_push]
      by_cases q : y = x
      · subst q
        obtain rfl := H.one S he' hem (by rw [hy, hx])
        simp
      · have : (e'.born == e.born) = false := by
          simp only [beq_eq_false_iff_ne]
          intro p
          obtain rfl := born_inj ((stamped_iff es cl).1 S).2.1 he' hem p
          rw [hy] at hx; cases hx; exact q rfl
        simp [q, this]
    · rcases hal with rfl | rfl <;> exact ⟨rfl, rfl, rfl, by simp [setBlock], fun i _ hi => hset.2 i (fun e1 => hi (by rw [e1]; rfl))⟩
    · rcases hal with rfl | rfl <;> simp [setBlock]
    · have := run_entry_at (P := Try.prog) _ r b since seen es cl e hset.1 hb' hem ((stamped_iff es cl).1 S).2.1
      rw [hx] at this
      exact this
/-- Of a key that is there another value is stored. -/
theorem Rgg.store (h : Rgg b r f left c w) {x : Int} (h0 : 0 ≤ x) (h1 : x < 256) (hx : f x ≠ none) {t e : TypeId} (ht : Try.prog.underlying t = some (.map 5 e)) (v : Value) :
    ∃ w', (Instr.mapUpdate t (.map (some b)) (.int .u8 x) v).run Try.prog w = .ok () w' ∧ Rgg b r (upd f x (some v)) left c w' ∧ Fr (On b) w w' ∧ w'.heap.size = w.heap.size := by
  have hl := h.map.lt
  have hne := h.ne
  obtain ⟨es, cl, since, seen, c0, hb, S, H, hr, hold, rfl, hl1, hl2, hsc, hsk⟩ := h
  obtain ⟨es', c', hrun, S', H', hw⟩ := store_who hb S H h0 h1 ht v
  obtain ⟨rfl, hbn, hks⟩ := hw hx
  have hat : ∀ e' ∈ es'.toList, ∃ e ∈ es.toList, e.key = e'.key ∧ e.born = e'.born := by
    intro e' he'
    obtain ⟨i, hi⟩ := List.getElem?_of_mem he'
    have q1 := congrArg (fun l => l[i]?) hbn
    have q2 := congrArg (fun l => l[i]?) hks
    simp only [List.getElem?_map, hi, Option.map_some] at q1 q2
    cases q : es.toList[i]? with
    | none => rw [q] at q1; cases q1
    | some e => rw [q] at q1 q2; simp only [Option.map_some, Option.some.injEq] at q1 q2; exact ⟨e, List.mem_of_getElem? q, q2.symm, q1.symm⟩
  refine ⟨_, hrun, ⟨es', c', since, seen, c0, heap_setBlock_same hb _, S', H', (heap_setBlock_other hb _ hne).trans hr, fun e' he' => ?_, ?_, fun e' he' y hy => ?_, fun y hy => ?_, hsc, hsk⟩, fr_block w b _ hl, by simp [setBlock]⟩
  · obtain ⟨e, he, _, q⟩ := hat e' he'; rw [← q]; exact hold e he
  · have e1 : ∀ a : Array MapEntry, (leftOf a seen).size = ((a.toList.map (·.born)).filter fun n => !seen.contains n).length := fun a => by
      unfold leftOf
      rw [List.filter_map, List.length_map, ← Array.length_toList, Array.toList_filter]
      rfl
    rw [e1, e1, hbn]
  · obtain ⟨e, he, q1, q2⟩ := hat e' he'
    rw [← q2]; exact hl1 e he y (by rw [q1]; exact hy)
  · unfold upd; split
    · simp
    · exact hl2 y hy
/-- A key that is no longer to come is taken out. -/
theorem Rgg.drop (h : Rgg b r f left c w) {x : Int} (h0 : 0 ≤ x) (h1 : x < 256) (hx : left x = false) {t e : TypeId} (ht : Try.prog.underlying t = some (.map 5 e)) (ty : TypeId) :
    ∃ w' c', (Builtin.delete_ #[t, 5] ty #[.map (some b), .int .u8 x]).run Try.prog w = .ok (.tuple #[]) w' ∧ Rgg b r (upd f x none) left c' w' ∧ c' ≤ c ∧ Fr (On b) w w' ∧ w'.heap.size = w.heap.size := by
  have hl := h.map.lt
  have hne := h.ne
  obtain ⟨es, cl, since, seen, c0, hb, S, H, hr, hold, rfl, hl1, hl2, hsc, hsk⟩ := h
  obtain ⟨es', hrun, S', H', hsub⟩ := drop_who (ty := ty) hb S H h0 h1 ht
  refine ⟨_, _, hrun, ⟨es', cl, since, seen, c0, heap_setBlock_same hb _, S', H', (heap_setBlock_other hb _ hne).trans hr, fun e' he' => hold e' (hsub.subset he'), rfl, fun e' he' y hy => hl1 e' (hsub.subset he') y hy, fun y hy => ?_, hsc, hsk⟩, ?_, fr_block w b _ hl, by simp [setBlock]⟩
  · unfold upd; split
    · rename_i q; subst q; rw [hx] at hy; cases hy
    · exact hl2 y hy
  · have e1 : ∀ a : Array MapEntry, (leftOf a seen).size = (a.toList.filter fun e => !seen.contains e.born).length := fun a => by
      unfold leftOf
      rw [← Array.toList_filter, Array.length_toList]
    rw [e1, e1]
    exact (hsub.filter _).length_le
end
end Go.Proofs.Ytmceophmdkcgcaa
/- New, Set and Get of marks: what each answers, and what it leaves. -/
namespace Go.Proofs.Ytmceophmdkcgcaa
open Go.ChangeShapes Go.WideShapes Go.ChangeAt Go.RowKit Go.Maps Go.MapKept
set_option linter.unusedVariables false
set_option linter.unusedSimpArgs false
/-- Marks, plainly: of each byte its line, if there is one. -/
abbrev Mf := Int → Option Int
def vals (f : Mf) : Int → Option Value := fun x => (f x).map (Value.int .i64)
/-- At block t lie marks, their map at block b. -/
structure Mk (t b : Nat) (f : Mf) (w : World) : Prop where
  box : Lc 54 t [.map (some b)] w
  map : Mp b (vals f) w
  dom : ∀ x c, f x = some c → 97 ≤ x ∧ x ≤ 122
/-- Lines are from 1 up to M. -/
def Bd (M : Int) (f : Mf) : Prop := ∀ x c, f x = some c → 1 ≤ c ∧ c ≤ M
def setM (f : Mf) (x : Int) (v : Option Int) : Mf := fun y => if y = x then v else f y
theorem vals_set (f : Mf) (x : Int) (v : Option Int) : vals (setM f x v) = upd (vals f) x (v.map (Value.int .i64)) := by
  funext y; unfold vals setM upd; split <;> rfl
/-- The error of Set. -/
def setE (x line : Int) : Int := if x < 97 ∨ 122 < x then 100 else if line < 1 ∨ 2147483647 < line then 1 else 0
def setF (f : Mf) (x line : Int) : Mf := if setE x line = 0 then setM f x (some line) else f
section
variable {t b : Nat} {f : Mf} {w w1 : World}
theorem Mk.kp (h : Mk t b f w) (k : Kp w w1) : Mk t b f w1 := ⟨h.box.kp k, h.map.kp k, h.dom⟩
theorem Mk.fr {S : Nat → Prop} (h : Mk t b f w) (k : Fr S w w1) (ht : ¬ S t) (hb : ¬ S b) : Mk t b f w1 := ⟨h.box.fr k ht, h.map.fr k hb, h.dom⟩
theorem zeroI (w : World) : (zeroValue 3).run Try.prog w = .ok (.int .i64 0) w := by kernel_rfl
set_option maxHeartbeats 1000000 in
set_option maxRecDepth 100000 in
theorem new_any (w : World) : Calls Try.prog 9 #[] w fun e w' => ∃ t b, e = .returned (.pointer (some ⟨t, 0, none⟩)) ∧ Mk t b (fun _ => none) w' ∧ Kp w w' ∧ w.heap.size ≤ t ∧ w.heap.size ≤ b := by
  have hmm := @run_makeMap Try.prog
  go_enter Try.func9, Try.ntmps9
  go_wp2
  go_ret
  refine ⟨_, w.heap.size, rfl, ⟨by simpa [alloc_size] using Lc.new (w.alloc (.map #[] 0)) [.map (some w.heap.size)] 54, ⟨#[], 0, ?_, stamped_empty 0, ⟨by simp, by simp [vals]⟩⟩, by simp⟩, kp_more (kp_alloc _ _) _, ?_, Nat.le_refl _⟩
  · rw [alloc_old _ _ _ (by rw [alloc_size]; omega)]; exact alloc_new _ _
  · simp
set_option maxHeartbeats 4000000 in
set_option maxRecDepth 100000 in
theorem set_any (h : Mk t b f w) {x : Int} (h0 : 0 ≤ x) (h1 : x < 256) (line : Int) :
    Calls Try.prog 10 #[.pointer (some ⟨t, 0, none⟩), .int .u8 x, .int .i64 line] w fun e w' => e = .returned (.int .u16 (setE x line)) ∧ Mk t b (setF f x line) w' ∧ Fr (On b) w w' := by
  have c0 := h.box.at (j := 0) rfl
  have HM : Hid (Mk t b f w) := h
  by_cases q : x < 97 ∨ 122 < x
  · have hE : setE x line = 100 := by unfold setE; rw [if_pos q]
    unfold setF; rw [hE]
    clear hE h
    by_cases q1 : x < 97
    · have d1 : decide (x < 97) = true := decide_eq_true q1
      go_enter Try.func10, Try.ntmps10
      go_wp2
      go_ret
      exact ⟨rfl, HM.out, Fr.refl _ _⟩
    · have d1 : decide (x < 97) = false := decide_eq_false q1
      have d2 : decide (x > 122) = true := decide_eq_true (by omega)
      have d3 : decide (122 < x) = true := decide_eq_true (by omega)
      go_enter Try.func10, Try.ntmps10
      go_wp2
      go_ret
      exact ⟨rfl, HM.out, Fr.refl _ _⟩
  · have d1 : decide (x < 97) = false := decide_eq_false (by omega)
    have d2 : decide (x > 122) = false := decide_eq_false (by omega)
    have d3 : decide (122 < x) = false := decide_eq_false (by omega)
    by_cases p : line < 1 ∨ 2147483647 < line
    · have hE : setE x line = 1 := by unfold setE; rw [if_neg q, if_pos p]
      unfold setF; rw [hE]
      clear hE h
      by_cases q1 : line < 1
      · have d4 : decide (line < 1) = true := decide_eq_true q1
        go_enter Try.func10, Try.ntmps10
        go_wp2
        go_ret
        exact ⟨rfl, HM.out, Fr.refl _ _⟩
      · have d4 : decide (line < 1) = false := decide_eq_false q1
        have d5 : decide (line > 2147483647) = true := decide_eq_true (by omega)
        have d6 : decide (2147483647 < line) = true := decide_eq_true (by omega)
        go_enter Try.func10, Try.ntmps10
        go_wp2
        go_ret
        exact ⟨rfl, HM.out, Fr.refl _ _⟩
    · have hE : setE x line = 0 := by unfold setE; rw [if_neg q, if_neg p]
      unfold setF; rw [hE]
      have d4 : decide (line < 1) = false := decide_eq_false (by omega)
      have d5 : decide (line > 2147483647) = false := decide_eq_false (by omega)
      have d6 : decide (2147483647 < line) = false := decide_eq_false (by omega)
      obtain ⟨w', hr, hm, hf, hs⟩ := h.map.store h0 h1 Try.underlying52 (.int .i64 line)
      have HP : Hid (Mk t b (setM f x (some line)) w' ∧ Fr (On b) w w') := by
        refine ⟨⟨h.box.fr hf (h.map.ne h.box), by rw [vals_set]; exact hm, fun y c hy => ?_⟩, hf⟩
        unfold setM at hy
        split at hy
        · omega
        · exact h.dom y c hy
      clear hE h hm hf hs q p
      go_enter Try.func10, Try.ntmps10
      go_wp2
      go_ret
      exact ⟨rfl, HP.out⟩
set_option maxHeartbeats 4000000 in
set_option maxRecDepth 100000 in
theorem get_any (h : Mk t b f w) {x : Int} (h0 : 0 ≤ x) (h1 : x < 256) :
    Calls Try.prog 13 #[.pointer (some ⟨t, 0, none⟩), .int .u8 x] w fun e w' => e = .returned (.tuple #[.int .i64 ((f x).getD 0), .int .u16 (if (f x).isSome then 0 else 100)]) ∧ w' = w := by
  have c0 := h.box.at (j := 0) rfl
  have hl := h.map.look h0 h1 Try.underlying52 (zeroI w) true
  have e1 : (vals f x).getD (.int .i64 0) = .int .i64 ((f x).getD 0) := by unfold vals; cases f x <;> rfl
  have e2 : (vals f x).isSome = (f x).isSome := by unfold vals; cases f x <;> rfl
  rw [e1, e2] at hl
  clear e1 e2
  cases q : f x with
  | none =>
    rw [q] at hl
    simp only [Option.getD_none, Option.isSome_none, if_true] at hl ⊢
    clear h
    go_enter Try.func13, Try.ntmps13
    go_wp2
    go_ret2
    exact ⟨rfl, rfl⟩
  | some c =>
    rw [q] at hl
    simp only [Option.getD_some, Option.isSome_some, if_true] at hl ⊢
    clear h
    go_enter Try.func13, Try.ntmps13
    go_wp2
    go_ret2
    exact ⟨rfl, rfl⟩
end
end Go.Proofs.Ytmceophmdkcgcaa
/- Each mark goes where its line goes: follow, Splice, Move. -/
namespace Go.Proofs.Ytmceophmdkcgcaa
open Go.ChangeShapes Go.WideShapes Go.ChangeAt Go.RowKit Go.Maps Go.MapKept
set_option linter.unusedVariables false
set_option linter.unusedSimpArgs false
/-- A course: what a function value answers of a line, whatever else has turned but its own boxes. -/
def Crs (g : Nat) (cs : Array Value) (F : Int → Option Int) (M : Int) (w : World) : Prop :=
  ∀ (x : Int) (w' : World), 1 ≤ x → x ≤ M → w'.heap.size ≥ w.heap.size → (∀ k, k < w.heap.size → (∃ T l, Lc T k l w) → w'.heap[k]? = w.heap[k]?) →
    Calls Try.prog g (#[.int .i64 x] ++ cs) w' fun e w2 => (∃ y, e = .returned (.tuple #[.int .i64 y, .bool (F x).isSome]) ∧ ∀ z, F x = some z → y = z) ∧ Kp w' w2
/-- Marks under way: those that are no longer to come have gone. -/
def gone (f : Mf) (F : Int → Option Int) (left : Int → Bool) : Mf := fun x => if left x then f x else (f x).bind F
section
variable {t b : Nat} {f : Mf} {w w1 : World}
theorem gone_start (f : Mf) (F : Int → Option Int) : gone f F (fun x => (vals f x).isSome) = f := by
  funext x; unfold gone vals
  cases q : f x <;> simp [q]
theorem gone_end (f : Mf) (F : Int → Option Int) {left : Int → Bool} (h : ∀ x, left x = false) : gone f F left = fun x => (f x).bind F := by
  funext x; unfold gone; rw [h]; rfl
theorem gone_step (f : Mf) (F : Int → Option Int) {left : Int → Bool} {x c : Int} (hx : f x = some c) : gone f F (fun y => left y && !decide (y = x)) = setM (gone f F left) x (F c) := by
  funext y; unfold gone setM
  by_cases q : y = x
  · subst q; simp [hx]
  · simp [q]
section
variable {r c : Nat} {m : Int → Option Value} {left : Int → Bool} {ops : Array Oper} {rest : List Oper} {o : Oper} {a : Act} {Q : Exit → Act → World → Prop}
theorem wpl_range (hg : o.guard = none) (x : Operand) (T E : TypeId) (hop : o.op = Op.range T x) (ht : Try.prog.underlying T = some (.map 5 E)) (hm : a.eval x = .map (some b)) (h : Mp b m w)
    (hK : ∀ w' c, Rgg b w.heap.size m (fun x => (m x).isSome) c w' → Kp w w' → w'.heap.size = w.heap.size + 1 → wpList Try.prog ops Q rest (a.put o.dst (.pointer (some ⟨w.heap.size, 0, none⟩))) w') :
    wpList Try.prog ops Q (o :: rest) a w := by
  refine wpList_plain hg fun K' hK' => ?_
  obtain ⟨w', c, hrun, r1, r2, r3⟩ := h.ranged ht
  unfold Oper.wp
  simp [execOp, hop, hm, hrun, Result.andThen]
  exact hK' _ _ (hK w' c r1 r2 r3)
theorem wpl_next (hg : o.guard = none) (x : Operand) (hop : o.op = Op.next x false) (hm : a.eval x = .pointer (some ⟨r, 0, none⟩)) (h : Rgg b r m left c w)
    (h0 : (∀ y, left y = false) → wpList Try.prog ops Q rest (a.put o.dst (.tuple #[.bool false])) w)
    (h1 : ∀ y v w' c', 0 ≤ y → y < 256 → left y = true → m y = some v → Rgg b r m (fun z => left z && !decide (z = y)) c' w' → c' < c → Fr (On r) w w' → w'.heap.size = w.heap.size →
      (Instr.entry (.pointer (some ⟨r, 0, none⟩))).run Try.prog w' = .ok (.tuple #[.int .u8 y, v]) w' → wpList Try.prog ops Q rest (a.put o.dst (.tuple #[.bool true, .int .u8 y, v])) w') :
    wpList Try.prog ops Q (o :: rest) a w := by
  refine wpList_plain hg fun K' hK' => ?_
  unfold Oper.wp
  rcases h.next o.type with ⟨h2, hrun⟩ | ⟨y, v, w', c', q1, q2, q3, q4, hrun, q5, q6, q7, q8, q9⟩
  · simp [execOp, hop, hm, hrun, Result.andThen]
    exact hK' _ _ (h0 h2)
  · simp [execOp, hop, hm, hrun, Result.andThen]
    exact hK' _ _ (h1 y v w' c' q1 q2 q3 q4 q5 q6 q7 q8 q9)
theorem wpl_store (hg : o.guard = none) (x y v : Operand) (T E : TypeId) (hop : o.op = Op.mapUpdate T x y v) (ht : Try.prog.underlying T = some (.map 5 E)) (hm : a.eval x = .map (some b)) (h : Rgg b r m left c w)
    {k : Int} (hy : a.eval y = .int .u8 k) (k0 : 0 ≤ k) (k1 : k < 256) (hk : m k ≠ none) {u : Value} (hv : a.eval v = u)
    (hK : ∀ w', Rgg b r (upd m k (some u)) left c w' → Fr (On b) w w' → w'.heap.size = w.heap.size → wpList Try.prog ops Q rest (a.put o.dst undef) w') :
    wpList Try.prog ops Q (o :: rest) a w := by
  refine wpList_plain hg fun K' hK' => ?_
  obtain ⟨w', hrun, r1, r2, r3⟩ := h.store k0 k1 hk ht u
  unfold Oper.wp
  simp [execOp, hop, hm, hy, hv, hrun, Result.andThen]
  exact hK' _ _ (hK w' r1 r2 r3)
theorem wpl_delete (hg : o.guard = none) (x y : Operand) (T E : TypeId) (hop : o.op = Op.call { callee := Callee.builtin Builtin.delete, args := #[x, y], argTypes := #[T, 5] }) (ht : Try.prog.underlying T = some (.map 5 E)) (hm : a.eval x = .map (some b)) (h : Rgg b r m left c w)
    {k : Int} (hy : a.eval y = .int .u8 k) (k0 : 0 ≤ k) (k1 : k < 256) (hk : left k = false)
    (hK : ∀ w' c', Rgg b r (upd m k none) left c' w' → c' ≤ c → Fr (On b) w w' → w'.heap.size = w.heap.size → wpList Try.prog ops Q rest (a.put o.dst (.tuple #[])) w') :
    wpList Try.prog ops Q (o :: rest) a w := by
  refine wpList_plain hg fun K' hK' => ?_
  obtain ⟨w', c', hrun, r1, r2, r3, r4⟩ := h.drop k0 k1 hk ht o.type
  unfold Oper.wp
  simp [execOp, hop, resolve, invoke, builtin, hm, hy, hrun, Result.andThen]
  exact hK' _ _ (hK w' c' r1 r2 r3 r4)
end
/-- While marks go: the box, the range, and what else stays. -/
structure Gng (t b r : Nat) (f : Mf) (F : Int → Option Int) (w : World) (left : Int → Bool) (c : Nat) (wr : World) : Prop where
  box : Lc 54 t [.map (some b)] wr
  rg : Rgg b r (vals (gone f F left)) left c wr
  fr : Fr (On b) w wr
  new : w.heap.size ≤ r
theorem Gng.step {r c c' : Nat} {F : Int → Option Int} {left : Int → Bool} {wr w2 : World} (h : Gng t b r f F w left c wr) (hr : Rgg b r (vals (gone f F left)) left c' w2) (hf : Fr (On r) wr w2) (ht : t ≠ r) : Gng t b r f F w left c' w2 :=
  ⟨h.box.fr hf ht, hr, h.fr.trans' hf fun k hk q => absurd hk (by unfold On at q; have := h.new; omega), h.new⟩
theorem Gng.mk_ {r c : Nat} {F : Int → Option Int} {left : Int → Bool} {wr : World} (h : Gng t b r f F w left c wr) (hl : ∀ x, left x = false) (hd : ∀ x c, f x = some c → 97 ≤ x ∧ x ≤ 122) : Mk t b (fun x => (f x).bind F) wr := by
  refine ⟨h.box, ?_, fun x c hx => ?_⟩
  · have := h.rg.map; rw [gone_end f F hl] at this; exact this
  · cases q : f x with
    | none => rw [q] at hx; cases hx
    | some d => exact hd x d q
theorem Crs.kp {g : Nat} {cs : Array Value} {F : Int → Option Int} {M : Int} (h : Crs g cs F M w) {wr : World} (hf : Fr (On b) w wr) (hb : Mp b (vals f) w) (x : Int) (x0 : 1 ≤ x) (x1 : x ≤ M) :
    Calls Try.prog g (#[.int .i64 x] ++ cs) wr fun e w2 => (∃ y, e = .returned (.tuple #[.int .i64 y, .bool (F x).isSome]) ∧ ∀ z, F x = some z → y = z) ∧ Kp wr w2 :=
  h x wr x0 x1 hf.size fun k hk ⟨T, l, hl⟩ => hf.block k hk (hb.ne hl)
set_option maxHeartbeats 4000000 in
set_option maxRecDepth 100000 in
theorem follow_any (h : Mk t b f w) {g : Nat} {cs : Array Value} {F : Int → Option Int} {M : Int} (hB : Bd M f) (hF : Crs g cs F M w) (hg : ∀ args w, (callFunc g args).run Try.prog w = .ok (.enter g args) w) :
    Calls Try.prog 26 #[.pointer (some ⟨t, 0, none⟩), .func (.func g) #[] cs] w fun e w' => e = .returned (.tuple #[]) ∧ Mk t b (fun x => (f x).bind F) w' ∧ Fr (On b) w w' := by
  have c0 := h.box.at (j := 0) rfl
  have hm := h.map
  have HF : Hid (∀ wr, Fr (On b) w wr → ∀ x, 1 ≤ x → x ≤ M → Calls Try.prog g (#[.int .i64 x] ++ cs) wr fun e w2 => (∃ y, e = .returned (.tuple #[.int .i64 y, .bool (F x).isSome]) ∧ ∀ z, F x = some z → y = z) ∧ Kp wr w2) := fun wr hf x x0 x1 => hF.kp hf hm x x0 x1
  have HD : Hid (∀ x c, f x = some c → 97 ≤ x ∧ x ≤ 122) := h.dom
  have HB : Hid (Bd M f) := hB
  have hlt := h.box.lt
  have HS : Hid (∀ w' c, Rgg b w.heap.size (vals f) (fun x => (vals f x).isSome) c w' → Kp w w' → Gng t b w.heap.size f F w (fun x => (vals f x).isSome) c w') := fun w' c hr hk =>
    ⟨h.box.kp hk, by rw [gone_start]; exact hr, ⟨hk.os, hk.tape, hk.output, hk.size, fun k q _ => hk.block k q⟩, Nat.le_refl _⟩
  clear h hF hB
  go_enter Try.func26, Try.ntmps26
  go_wp2_with (first | (at_range; refine wpl_range rfl _ 52 3 rfl Try.underlying52 rfl hm ?_; intro w0 n0 hr0 hk0 hs0) | go_in)
  go_frame
  have G0 := HS.out w0 n0 hr0 hk0
  clear HS hr0 hk0 hs0 c0
  go_loopw [4] (fun _ wr => ∃ left c, Hid (Gng t b w.heap.size f F w left c wr)) (fun _ wr => wr.rangeLeft b w.heap.size)
  case atStart => exact ⟨_, _, G0⟩
  case round =>
    obtain ⟨left, c, HG⟩ := hrel
    have hrg := HG.out.rg
    go_wp2_with (first | (at_next; refine wpl_next rfl _ rfl rfl hrg ?_ ?_) | go_in)
    · intro hl
      have HE : Hid (Mk t b (fun x => (f x).bind F) wr ∧ Fr (On b) w wr) := ⟨HG.out.mk_ hl HD.out, HG.out.fr⟩
      clear hl hrg HG HF HB HD G0
      go_wp2
      go_end0
      exact ⟨rfl, HE.out⟩
    · intro y v w2 c2 y0 y1 hly hy hr2 hlt2 hf2 hs2 hen
      obtain ⟨ln, rfl, hfy⟩ : ∃ ln, v = .int .i64 ln ∧ f y = some ln := by
        have q : gone f F left y = f y := by unfold gone; rw [hly]; rfl
        unfold vals at hy; rw [q] at hy
        cases p : f y with
        | none => rw [p] at hy; cases hy
        | some z => rw [p] at hy; cases hy; exact ⟨z, rfl, rfl⟩
      have ht : t ≠ w.heap.size := by omega
      have G2 : Hid (Gng t b w.heap.size f F w left c w2 → True) := fun _ => trivial
      have c2' : w2.cell? ⟨t, 0, none⟩ = some (.map (some b)) := (HG.out.box.fr hf2 ht).at (j := 0) rfl
      have HW : Hid (Fr (On b) w w2 ∧ Lc 54 t [.map (some b)] w2) := ⟨HG.out.fr.trans' hf2 fun k hk q => absurd hk (by unfold On at q; omega), HG.out.box.fr hf2 ht⟩
      obtain ⟨l0, l1⟩ := HB.out y ln hfy
      have HC := HF.out w2 HW.out.1 ln l0 l1
      have HL : Hid (c2 < c ∧ f y = some ln ∧ left y = true) := ⟨hlt2, hfy, hly⟩
      have HR : Hid (wr.rangeLeft b w.heap.size = c) := hrg.left_eq
      clear hlt2 hfy hly hf2 hs2 hrg HG HB hy G2 l0 l1
      have HG2 : Hid (∀ w5, Kp w2 w5 → ∀ w3 c3, Rgg b w.heap.size (upd (vals (gone f F left)) y ((F ln).map (Value.int .i64))) (fun z => left z && !decide (z = y)) c3 w3 → Fr (On b) w5 w3 → c3 ≤ c2 → Gng t b w.heap.size f F w (fun z => left z && !decide (z = y)) c3 w3 ∧ w3.rangeLeft b w.heap.size < wr.rangeLeft b w.heap.size) := fun w5 k5 w3 c3 hr3 hf3 hle => by
        refine ⟨⟨(HW.out.2.kp k5).fr hf3 (hr2.map.ne HW.out.2), ?_, (HW.out.1.trans (Fr.of_below k5)).trans hf3, Nat.le_refl _⟩, ?_⟩
        · rw [gone_step f F HL.out.2.1, vals_set]; exact hr3
        · rw [hr3.left_eq, HR.out]; have := HL.out.1; omega
      have hmy : vals (gone f F left) y ≠ none := by
        unfold vals gone; rw [HL.out.2.2, if_pos rfl, HL.out.2.1]; simp
      clear HL HR HW
      cases hFl : F ln with
      | none =>
        rw [hFl] at HC HG2
        simp only [Option.isSome_none, Option.map_none] at HC HG2
        clear hFl hmy HF HD G0 hm
        go_wp2_with fail
        refine Calls.mono HC ?_
        rintro e w3 ⟨⟨y', rfl, _⟩, k3⟩
        have c3' := kp_cell k3 c2'
        replace hr2 := hr2.kp k3
        replace HG2 : Hid _ := HG2.out w3 k3
        clear HC c2' hen k3
        go_wp2_with (first | (at_delete; refine wpl_delete rfl _ _ 52 3 rfl Try.underlying52 rfl hr2 rfl y0 y1 (by simp) ?_; intro w4 c4 hr4 hle4 hf4 hs4) | go_in)
        go_frame
        have HX := HG2.out w4 c4 hr4 hf4 hle4
        clear HG2 hr4 hf4 hs4 hle4 hr2 c3' hlt ht hg
        go_roundw
        case rel => exact ⟨_, _, HX.1⟩
        case measure => exact HX.2
      | some z =>
        rw [hFl] at HC HG2
        simp only [Option.isSome_some, Option.map_some] at HC HG2
        clear hFl HF HD G0 hm
        go_wp2_with fail
        refine Calls.mono HC ?_
        rintro e w3 ⟨⟨y', rfl, hz⟩, k3⟩
        obtain rfl := hz z rfl
        have c3' := kp_cell k3 c2'
        replace hr2 := hr2.kp k3
        replace HG2 : Hid _ := HG2.out w3 k3
        clear HC hz c2' hen k3
        go_wp2_with (first | (at_mapUpdate; refine wpl_store rfl _ _ _ 52 3 rfl Try.underlying52 rfl hr2 rfl y0 y1 hmy rfl ?_; intro w4 hr4 hf4 hs4) | go_in)
        go_frame
        have HX := HG2.out w4 _ hr4 hf4 (Nat.le_refl _)
        clear HG2 hr4 hf4 hs4 hr2 c3' hlt ht hg hmy
        go_roundw
        case rel => exact ⟨_, _, HX.1⟩
        case measure => exact HX.2
end
end Go.Proofs.Ytmceophmdkcgcaa
/- Splice and Move of marks. -/
namespace Go.Proofs.Ytmceophmdkcgcaa
open Go.ChangeShapes Go.WideShapes Go.ChangeAt Go.RowKit Go.Maps Go.MapKept
set_option linter.unusedVariables false
set_option linter.unusedSimpArgs false
/-- Where a line goes, if lines are put in the place of n from a on. -/
def spl (a n l x : Int) : Option Int := if x < a then some x else if x - a < n then (if x - a < l then some x else none) else some (x + l - n)
/-- Where a line goes, if those from a to m and those behind, up to z, change places. -/
def exc (a m z x : Int) : Option Int := if x < a ∨ z < x then some x else if x ≤ m then some (x + z - m) else some (x - m + a - 1)
def spF (f : Mf) (a n l : Int) : Mf := if a < 1 ∨ 2147483647 < a ∨ n < 0 ∨ 2147483647 < n ∨ l < 0 ∨ 2147483647 < l then f else fun x => (f x).bind (spl a n l)
def mvF (f : Mf) (a z d : Int) : Mf := if a < 1 ∨ z < a ∨ 2147483647 < z ∨ d < 0 ∨ 2147483647 < d then f else if z < d then fun x => (f x).bind (exc a z d) else if d < a - 1 then fun x => (f x).bind (exc (d + 1) (a - 1) z) else f
section
variable {t b : Nat} {f : Mf} {w w1 : World}
theorem spF_bd {M : Int} (h : Bd M f) (a n l : Int) : Bd (M + 2147483647) (spF f a n l) := by
  intro x c hx
  unfold spF at hx
  split at hx
  · have := h x c hx; omega
  · rename_i q
    cases p : f x with
    | none => simp [p] at hx
    | some y =>
      simp only [p] at hx
      have := h x y p
      simp only [Option.bind_some, spl] at hx
      split at hx
      · cases hx; omega
      · split at hx
        · split at hx
          · cases hx; omega
          · cases hx
        · cases hx; omega
theorem mvF_bd {M : Int} (h : Bd M f) (hM : 2147483647 ≤ M) (a z d : Int) : Bd M (mvF f a z d) := by
  have hx : ∀ a m z, 1 ≤ a → a ≤ m + 1 → m ≤ z → z ≤ 2147483647 → Bd M (fun x => (f x).bind (exc a m z)) := by
    intro a m z h1 h2 h3 h4 x c hx
    cases p : f x with
    | none => simp [p] at hx
    | some y =>
      simp only [p] at hx
      have := h x y p
      simp only [Option.bind_some, exc] at hx
      split at hx
      · cases hx; omega
      · split at hx <;> (cases hx; omega)
  unfold mvF
  split
  · exact h
  · split
    · exact hx _ _ _ (by omega) (by omega) (by omega) (by omega)
    · split
      · exact hx _ _ _ (by omega) (by omega) (by omega) (by omega)
      · exact h
set_option maxHeartbeats 4000000 in
set_option maxRecDepth 100000 in
theorem spliced_any (a n l : Int) (w : World) : Calls Try.prog 28 #[.int .i64 a, .int .i64 n, .int .i64 l] w fun e w' => ∃ p, p = w.heap.size ∧ e = .returned (.func (.func 34) #[] #[.pointer (some ⟨p, 0, none⟩), .pointer (some ⟨p + 1, 0, none⟩), .pointer (some ⟨p + 2, 0, none⟩)]) ∧ Kp w w' ∧
    Lc 3 p [.int .i64 a] w' ∧ Lc 3 (p + 1) [.int .i64 n] w' ∧ Lc 3 (p + 2) [.int .i64 l] w' := by
  go_enter Try.func28, Try.ntmps28
  go_wp2
  go_ret
  have s1 : (w.alloc (.cells #[.int .i64 a] 3)).heap.size = w.heap.size + 1 := alloc_size _ _
  have s2 : ((w.alloc (.cells #[.int .i64 a] 3)).alloc (.cells #[.int .i64 n] 3)).heap.size = w.heap.size + 2 := by rw [alloc_size, s1]
  refine ⟨_, rfl, rfl, kp_more (kp_more (kp_alloc _ _) _) _, ?_, ?_, ?_⟩
  · exact ((Lc.new w [.int .i64 a] 3).kp (kp_alloc _ _)).kp (kp_alloc _ _)
  · have := (Lc.new (w.alloc (.cells #[.int .i64 a] 3)) [.int .i64 n] 3).kp (kp_alloc _ (.cells #[.int .i64 l] 3))
    rw [s1] at this; exact this
  · have := Lc.new ((w.alloc (.cells #[.int .i64 a] 3)).alloc (.cells #[.int .i64 n] 3)) [.int .i64 l] 3
    rw [s2] at this; exact this
set_option maxHeartbeats 4000000 in
set_option maxRecDepth 100000 in
theorem exch_any (a n l : Int) (w : World) : Calls Try.prog 27 #[.int .i64 a, .int .i64 n, .int .i64 l] w fun e w' => ∃ p, p = w.heap.size ∧ e = .returned (.func (.func 33) #[] #[.pointer (some ⟨p, 0, none⟩), .pointer (some ⟨p + 2, 0, none⟩), .pointer (some ⟨p + 1, 0, none⟩)]) ∧ Kp w w' ∧
    Lc 3 p [.int .i64 a] w' ∧ Lc 3 (p + 1) [.int .i64 n] w' ∧ Lc 3 (p + 2) [.int .i64 l] w' := by
  go_enter Try.func27, Try.ntmps27
  go_wp2
  go_ret
  have s1 : (w.alloc (.cells #[.int .i64 a] 3)).heap.size = w.heap.size + 1 := alloc_size _ _
  have s2 : ((w.alloc (.cells #[.int .i64 a] 3)).alloc (.cells #[.int .i64 n] 3)).heap.size = w.heap.size + 2 := by rw [alloc_size, s1]
  refine ⟨_, rfl, rfl, kp_more (kp_more (kp_alloc _ _) _) _, ?_, ?_, ?_⟩
  · exact ((Lc.new w [.int .i64 a] 3).kp (kp_alloc _ _)).kp (kp_alloc _ _)
  · have := (Lc.new (w.alloc (.cells #[.int .i64 a] 3)) [.int .i64 n] 3).kp (kp_alloc _ (.cells #[.int .i64 l] 3))
    rw [s1] at this; exact this
  · have := Lc.new ((w.alloc (.cells #[.int .i64 a] 3)).alloc (.cells #[.int .i64 n] 3)) [.int .i64 l] 3
    rw [s2] at this; exact this
/-- The numbers with which a course may be asked. -/
def Few (a n l x : Int) : Prop := 0 ≤ a ∧ a ≤ 4294967296 ∧ 0 ≤ n ∧ n ≤ 4294967296 ∧ 0 ≤ l ∧ l ≤ 4294967296 ∧ 1 ≤ x ∧ x ≤ 1099511627776
set_option maxHeartbeats 4000000 in
set_option maxRecDepth 100000 in
theorem spliced1_any {a n l x : Int} (hf : Few a n l x) {p q r : Nat} (h1 : Lc 3 p [.int .i64 a] w) (h2 : Lc 3 q [.int .i64 n] w) (h3 : Lc 3 r [.int .i64 l] w) :
    Calls Try.prog 34 #[.int .i64 x, .pointer (some ⟨p, 0, none⟩), .pointer (some ⟨q, 0, none⟩), .pointer (some ⟨r, 0, none⟩)] w fun e w2 => (∃ y, e = .returned (.tuple #[.int .i64 y, .bool (spl a n l x).isSome]) ∧ ∀ z, spl a n l x = some z → y = z) ∧ Kp w w2 := by
  obtain ⟨f1, f2, f3, f4, f5, f6, f7, f8⟩ := hf
  have c1 := h1.at (j := 0) rfl
  have c2 := h2.at (j := 0) rfl
  have c3 := h3.at (j := 0) rfl
  have w1 : wrap64 (x - a) = x - a := by unfold wrap64; omega
  have w2 : wrap64 (x + l) = x + l := by unfold wrap64; omega
  have w3 : wrap64 (x + l - n) = x + l - n := by unfold wrap64; omega
  unfold spl
  by_cases q1 : x < a
  · rw [if_pos q1]
    have d1 : decide (x - a < 0) = true := decide_eq_true (by omega)
    clear h1 h2 h3 q1
    go_enter Try.func34, Try.ntmps34
    go_wp2
    go_ret2
    exact ⟨⟨_, rfl, fun z hz => by cases hz; rfl⟩, Below.refl _ _⟩
  · rw [if_neg q1]
    have d1 : decide (x - a < 0) = false := decide_eq_false (by omega)
    by_cases q2 : x - a < n
    · rw [if_pos q2]
      have d2 : decide (x - a < n) = true := decide_eq_true q2
      have HB : Hid (Below w.heap.size w w → True) := fun _ => trivial
      cases d3 : decide (x - a < l) with
      | true =>
        have q3 : x - a < l := of_decide_eq_true d3
        rw [if_pos q3]
        clear h1 h2 h3 q1 q2 q3
        go_enter Try.func34, Try.ntmps34
        go_wp2
        go_region
        all_goals (go_wp2; go_ret2; exact ⟨⟨_, rfl, fun z hz => by cases hz; rfl⟩, kp_drewN _ _⟩)
      | false =>
        have q3 : ¬ x - a < l := of_decide_eq_false d3
        rw [if_neg q3]
        clear h1 h2 h3 q1 q2 q3
        go_enter Try.func34, Try.ntmps34
        go_wp2
        go_region
        all_goals (go_wp2; go_ret2; exact ⟨⟨_, rfl, fun z hz => by cases hz⟩, kp_drewN _ _⟩)
    · rw [if_neg q2]
      have d2 : decide (x - a < n) = false := decide_eq_false q2
      clear h1 h2 h3 q1 q2
      go_enter Try.func34, Try.ntmps34
      go_wp2
      go_ret2
      exact ⟨⟨_, rfl, fun z hz => by cases hz; rfl⟩, Below.refl _ _⟩
set_option maxHeartbeats 4000000 in
set_option maxRecDepth 100000 in
theorem exch1_any {a n l x : Int} (hf : Few a n l x) {p q r : Nat} (h1 : Lc 3 p [.int .i64 a] w) (h2 : Lc 3 q [.int .i64 n] w) (h3 : Lc 3 r [.int .i64 l] w) :
    Calls Try.prog 33 #[.int .i64 x, .pointer (some ⟨p, 0, none⟩), .pointer (some ⟨r, 0, none⟩), .pointer (some ⟨q, 0, none⟩)] w fun e w2 => (∃ y, e = .returned (.tuple #[.int .i64 y, .bool (exc a n l x).isSome]) ∧ ∀ z, exc a n l x = some z → y = z) ∧ Kp w w2 := by
  obtain ⟨f1, f2, f3, f4, f5, f6, f7, f8⟩ := hf
  have c1 := h1.at (j := 0) rfl
  have c2 := h2.at (j := 0) rfl
  have c3 := h3.at (j := 0) rfl
  have w1 : wrap64 (x + l) = x + l := by unfold wrap64; omega
  have w2 : wrap64 (x + l - n) = x + l - n := by unfold wrap64; omega
  have w3 : wrap64 (x - n) = x - n := by unfold wrap64; omega
  have w4 : wrap64 (x - n + a) = x - n + a := by unfold wrap64; omega
  have w5 : wrap64 (x - n + a - 1) = x - n + a - 1 := by unfold wrap64; omega
  unfold exc
  by_cases q1 : x < a
  · rw [if_pos (.inl q1)]
    have d1 : decide (x < a) = true := decide_eq_true (by omega)
    clear h1 h2 h3 q1
    go_enter Try.func33, Try.ntmps33
    go_wp2
    go_ret2
    exact ⟨⟨_, rfl, fun z hz => by cases hz; rfl⟩, Below.refl _ _⟩
  · have d1 : decide (x < a) = false := decide_eq_false q1
    by_cases q2 : l < x
    · rw [if_pos (.inr q2)]
      have d2 : decide (x > l) = true := decide_eq_true q2
      have d3 : decide (l < x) = true := decide_eq_true q2
      clear h1 h2 h3 q1 q2
      go_enter Try.func33, Try.ntmps33
      go_wp2
      go_ret2
      exact ⟨⟨_, rfl, fun z hz => by cases hz; rfl⟩, Below.refl _ _⟩
    · rw [if_neg (by omega)]
      have d2 : decide (x > l) = false := decide_eq_false q2
      have d3 : decide (l < x) = false := decide_eq_false q2
      by_cases q3 : x ≤ n
      · rw [if_pos q3]
        have d4 : decide (x ≤ n) = true := decide_eq_true q3
        clear h1 h2 h3 q1 q2 q3
        go_enter Try.func33, Try.ntmps33
        go_wp2
        go_ret2
        exact ⟨⟨_, rfl, fun z hz => by cases hz; rfl⟩, Below.refl _ _⟩
      · rw [if_neg q3]
        have d4 : decide (x ≤ n) = false := decide_eq_false q3
        clear h1 h2 h3 q1 q2 q3
        go_enter Try.func33, Try.ntmps33
        go_wp2
        go_ret2
        exact ⟨⟨_, rfl, fun z hz => by cases hz; rfl⟩, Below.refl _ _⟩
/-- Both are courses. -/
theorem crs_spl {a n l M : Int} (h1 : 0 ≤ a ∧ a ≤ 4294967296) (h2 : 0 ≤ n ∧ n ≤ 4294967296) (h3 : 0 ≤ l ∧ l ≤ 4294967296) (hM : M ≤ 1099511627776) {p : Nat} (c1 : Lc 3 p [.int .i64 a] w) (c2 : Lc 3 (p + 1) [.int .i64 n] w) (c3 : Lc 3 (p + 2) [.int .i64 l] w) :
    Crs 34 #[.pointer (some ⟨p, 0, none⟩), .pointer (some ⟨p + 1, 0, none⟩), .pointer (some ⟨p + 2, 0, none⟩)] (spl a n l) M w := fun x w' x0 x1 hs hk =>
  spliced1_any ⟨h1.1, h1.2, h2.1, h2.2, h3.1, h3.2, x0, by omega⟩ (c1.heap (hk _ c1.lt ⟨_, _, c1⟩)) (c2.heap (hk _ c2.lt ⟨_, _, c2⟩)) (c3.heap (hk _ c3.lt ⟨_, _, c3⟩))
theorem crs_exc {a n l M : Int} (h1 : 0 ≤ a ∧ a ≤ 4294967296) (h2 : 0 ≤ n ∧ n ≤ 4294967296) (h3 : 0 ≤ l ∧ l ≤ 4294967296) (hM : M ≤ 1099511627776) {p : Nat} (c1 : Lc 3 p [.int .i64 a] w) (c2 : Lc 3 (p + 1) [.int .i64 n] w) (c3 : Lc 3 (p + 2) [.int .i64 l] w) :
    Crs 33 #[.pointer (some ⟨p, 0, none⟩), .pointer (some ⟨p + 2, 0, none⟩), .pointer (some ⟨p + 1, 0, none⟩)] (exc a n l) M w := fun x w' x0 x1 hs hk =>
  exch1_any ⟨h1.1, h1.2, h2.1, h2.2, h3.1, h3.2, x0, by omega⟩ (c1.heap (hk _ c1.lt ⟨_, _, c1⟩)) (c2.heap (hk _ c2.lt ⟨_, _, c2⟩)) (c3.heap (hk _ c3.lt ⟨_, _, c3⟩))
theorem ent34 (args : Array Value) (w : World) : (callFunc 34 args).run Try.prog w = .ok (.enter 34 args) w := enters_of Try.func34 (by kernel_rfl) rfl args w
theorem ent33 (args : Array Value) (w : World) : (callFunc 33 args).run Try.prog w = .ok (.enter 33 args) w := enters_of Try.func33 (by kernel_rfl) rfl args w
set_option maxHeartbeats 8000000 in
set_option maxRecDepth 100000 in
theorem splice_any {M : Int} (h : Mk t b f w) (hB : Bd M f) (hM : M ≤ 1099511627776) (a n l : Int) :
    Calls Try.prog 15 #[.pointer (some ⟨t, 0, none⟩), .int .i64 a, .int .i64 n, .int .i64 l] w fun e w' => e = .returned (.tuple #[]) ∧ Mk t b (spF f a n l) w' ∧ Fr (On b) w w' := by
  by_cases q0 : a < 1
  · have HP : Hid (Mk t b (spF f a n l) w ∧ Fr (On b) w w) := by unfold spF; rw [if_pos (by omega)]; exact ⟨h, Fr.refl _ _⟩
    have g0_0 : decide (a < 1) = true := decide_eq_true (by omega)
    clear h hB hM q0
    go_enter Try.func15, Try.ntmps15
    go_wp2
    refine bodyPost_ret (results_none rfl _ _ _) rfl ?_
    exact ⟨rfl, HP.out⟩
  by_cases q1 : 2147483647 < a
  · have HP : Hid (Mk t b (spF f a n l) w ∧ Fr (On b) w w) := by unfold spF; rw [if_pos (by omega)]; exact ⟨h, Fr.refl _ _⟩
    have g0_0 : decide (a < 1) = false := decide_eq_false (by omega)
    have g1_0 : decide (a > 2147483647) = true := decide_eq_true (by omega)
    have g1_1 : decide (2147483647 < a) = true := decide_eq_true (by omega)
    clear h hB hM q0 q1
    go_enter Try.func15, Try.ntmps15
    go_wp2
    refine bodyPost_ret (results_none rfl _ _ _) rfl ?_
    exact ⟨rfl, HP.out⟩
  by_cases q2 : n < 0
  · have HP : Hid (Mk t b (spF f a n l) w ∧ Fr (On b) w w) := by unfold spF; rw [if_pos (by omega)]; exact ⟨h, Fr.refl _ _⟩
    have g0_0 : decide (a < 1) = false := decide_eq_false (by omega)
    have g1_0 : decide (a > 2147483647) = false := decide_eq_false (by omega)
    have g1_1 : decide (2147483647 < a) = false := decide_eq_false (by omega)
    have g2_0 : decide (n < 0) = true := decide_eq_true (by omega)
    clear h hB hM q0 q1 q2
    go_enter Try.func15, Try.ntmps15
    go_wp2
    refine bodyPost_ret (results_none rfl _ _ _) rfl ?_
    exact ⟨rfl, HP.out⟩
  by_cases q3 : 2147483647 < n
  · have HP : Hid (Mk t b (spF f a n l) w ∧ Fr (On b) w w) := by unfold spF; rw [if_pos (by omega)]; exact ⟨h, Fr.refl _ _⟩
    have g0_0 : decide (a < 1) = false := decide_eq_false (by omega)
    have g1_0 : decide (a > 2147483647) = false := decide_eq_false (by omega)
    have g1_1 : decide (2147483647 < a) = false := decide_eq_false (by omega)
    have g2_0 : decide (n < 0) = false := decide_eq_false (by omega)
    have g3_0 : decide (n > 2147483647) = true := decide_eq_true (by omega)
    have g3_1 : decide (2147483647 < n) = true := decide_eq_true (by omega)
    clear h hB hM q0 q1 q2 q3
    go_enter Try.func15, Try.ntmps15
    go_wp2
    refine bodyPost_ret (results_none rfl _ _ _) rfl ?_
    exact ⟨rfl, HP.out⟩
  by_cases q4 : l < 0
  · have HP : Hid (Mk t b (spF f a n l) w ∧ Fr (On b) w w) := by unfold spF; rw [if_pos (by omega)]; exact ⟨h, Fr.refl _ _⟩
    have g0_0 : decide (a < 1) = false := decide_eq_false (by omega)
    have g1_0 : decide (a > 2147483647) = false := decide_eq_false (by omega)
    have g1_1 : decide (2147483647 < a) = false := decide_eq_false (by omega)
    have g2_0 : decide (n < 0) = false := decide_eq_false (by omega)
    have g3_0 : decide (n > 2147483647) = false := decide_eq_false (by omega)
    have g3_1 : decide (2147483647 < n) = false := decide_eq_false (by omega)
    have g4_0 : decide (l < 0) = true := decide_eq_true (by omega)
    clear h hB hM q0 q1 q2 q3 q4
    go_enter Try.func15, Try.ntmps15
    go_wp2
    refine bodyPost_ret (results_none rfl _ _ _) rfl ?_
    exact ⟨rfl, HP.out⟩
  by_cases q5 : 2147483647 < l
  · have HP : Hid (Mk t b (spF f a n l) w ∧ Fr (On b) w w) := by unfold spF; rw [if_pos (by omega)]; exact ⟨h, Fr.refl _ _⟩
    have g0_0 : decide (a < 1) = false := decide_eq_false (by omega)
    have g1_0 : decide (a > 2147483647) = false := decide_eq_false (by omega)
    have g1_1 : decide (2147483647 < a) = false := decide_eq_false (by omega)
    have g2_0 : decide (n < 0) = false := decide_eq_false (by omega)
    have g3_0 : decide (n > 2147483647) = false := decide_eq_false (by omega)
    have g3_1 : decide (2147483647 < n) = false := decide_eq_false (by omega)
    have g4_0 : decide (l < 0) = false := decide_eq_false (by omega)
    have g5_0 : decide (l > 2147483647) = true := decide_eq_true (by omega)
    have g5_1 : decide (2147483647 < l) = true := decide_eq_true (by omega)
    clear h hB hM q0 q1 q2 q3 q4 q5
    go_enter Try.func15, Try.ntmps15
    go_wp2
    refine bodyPost_ret (results_none rfl _ _ _) rfl ?_
    exact ⟨rfl, HP.out⟩
  have g0_0 : decide (a < 1) = false := decide_eq_false (by omega)
  have g1_0 : decide (a > 2147483647) = false := decide_eq_false (by omega)
  have g1_1 : decide (2147483647 < a) = false := decide_eq_false (by omega)
  have g2_0 : decide (n < 0) = false := decide_eq_false (by omega)
  have g3_0 : decide (n > 2147483647) = false := decide_eq_false (by omega)
  have g3_1 : decide (2147483647 < n) = false := decide_eq_false (by omega)
  have g4_0 : decide (l < 0) = false := decide_eq_false (by omega)
  have g5_0 : decide (l > 2147483647) = false := decide_eq_false (by omega)
  have g5_1 : decide (2147483647 < l) = false := decide_eq_false (by omega)
  have HC : Hid (∀ p W, p = w.heap.size → Kp w W → Lc 3 p [.int .i64 a] W → Lc 3 (p + 1) [.int .i64 n] W → Lc 3 (p + 2) [.int .i64 l] W → Calls Try.prog 26 #[.pointer (some ⟨t, 0, none⟩), .func (.func 34) #[] #[.pointer (some ⟨p, 0, none⟩), .pointer (some ⟨p + 1, 0, none⟩), .pointer (some ⟨p + 2, 0, none⟩)]] W fun e w' => e = .returned (.tuple #[]) ∧ Mk t b (spF f a n l) w' ∧ Fr (On b) w w') := fun p W hp hk c1 c2 c3 => by
    refine (follow_any (h.kp hk) hB (crs_spl (by omega) (by omega) (by omega) hM c1 c2 c3) ent34).mono ?_
    rintro e w' ⟨he, hm, hf⟩
    refine ⟨he, ?_, (Fr.of_below hk).trans hf⟩
    unfold spF; rw [if_neg (by omega)]; exact hm
  clear h hB hM q0 q1 q2 q3 q4 q5
  go_enter Try.func15, Try.ntmps15
  go_wp2_with fail
  refine Calls.mono (spliced_any a n l w) ?_
  rintro e w2 ⟨p, hp, rfl, hk, c1, c2, c3⟩
  have HD := HC.out p w2 hp hk c1 c2 c3
  clear HC hp hk c1 c2 c3
  go_wp2_with fail
  refine Calls.mono HD ?_
  rintro e w3 ⟨rfl, hP⟩
  have HP : Hid (Mk t b (spF f a n l) w3 ∧ Fr (On b) w w3) := hP
  clear hP HD
  go_wp2
  go_end0
  exact ⟨rfl, HP.out⟩
set_option maxHeartbeats 8000000 in
set_option maxRecDepth 100000 in
theorem move_any {M : Int} (h : Mk t b f w) (hB : Bd M f) (hM : M ≤ 1099511627776) (a z d : Int) :
    Calls Try.prog 12 #[.pointer (some ⟨t, 0, none⟩), .int .i64 a, .int .i64 z, .int .i64 d] w fun e w' => e = .returned (.tuple #[]) ∧ Mk t b (mvF f a z d) w' ∧ Fr (On b) w w' := by
  by_cases q0 : a < 1
  · have HP : Hid (Mk t b (mvF f a z d) w ∧ Fr (On b) w w) := by unfold mvF; rw [if_pos (by omega)]; exact ⟨h, Fr.refl _ _⟩
    have g0_0 : decide (a < 1) = true := decide_eq_true (by omega)
    clear h hB hM q0
    go_enter Try.func12, Try.ntmps12
    go_wp2
    refine bodyPost_ret (results_none rfl _ _ _) rfl ?_
    exact ⟨rfl, HP.out⟩
  by_cases q1 : z < a
  · have HP : Hid (Mk t b (mvF f a z d) w ∧ Fr (On b) w w) := by unfold mvF; rw [if_pos (by omega)]; exact ⟨h, Fr.refl _ _⟩
    have g0_0 : decide (a < 1) = false := decide_eq_false (by omega)
    have g1_0 : decide (z < a) = true := decide_eq_true (by omega)
    clear h hB hM q0 q1
    go_enter Try.func12, Try.ntmps12
    go_wp2
    refine bodyPost_ret (results_none rfl _ _ _) rfl ?_
    exact ⟨rfl, HP.out⟩
  by_cases q2 : 2147483647 < z
  · have HP : Hid (Mk t b (mvF f a z d) w ∧ Fr (On b) w w) := by unfold mvF; rw [if_pos (by omega)]; exact ⟨h, Fr.refl _ _⟩
    have g0_0 : decide (a < 1) = false := decide_eq_false (by omega)
    have g1_0 : decide (z < a) = false := decide_eq_false (by omega)
    have g2_0 : decide (z > 2147483647) = true := decide_eq_true (by omega)
    have g2_1 : decide (2147483647 < z) = true := decide_eq_true (by omega)
    clear h hB hM q0 q1 q2
    go_enter Try.func12, Try.ntmps12
    go_wp2
    refine bodyPost_ret (results_none rfl _ _ _) rfl ?_
    exact ⟨rfl, HP.out⟩
  by_cases q3 : d < 0
  · have HP : Hid (Mk t b (mvF f a z d) w ∧ Fr (On b) w w) := by unfold mvF; rw [if_pos (by omega)]; exact ⟨h, Fr.refl _ _⟩
    have g0_0 : decide (a < 1) = false := decide_eq_false (by omega)
    have g1_0 : decide (z < a) = false := decide_eq_false (by omega)
    have g2_0 : decide (z > 2147483647) = false := decide_eq_false (by omega)
    have g2_1 : decide (2147483647 < z) = false := decide_eq_false (by omega)
    have g3_0 : decide (d < 0) = true := decide_eq_true (by omega)
    clear h hB hM q0 q1 q2 q3
    go_enter Try.func12, Try.ntmps12
    go_wp2
    refine bodyPost_ret (results_none rfl _ _ _) rfl ?_
    exact ⟨rfl, HP.out⟩
  by_cases q4 : 2147483647 < d
  · have HP : Hid (Mk t b (mvF f a z d) w ∧ Fr (On b) w w) := by unfold mvF; rw [if_pos (by omega)]; exact ⟨h, Fr.refl _ _⟩
    have g0_0 : decide (a < 1) = false := decide_eq_false (by omega)
    have g1_0 : decide (z < a) = false := decide_eq_false (by omega)
    have g2_0 : decide (z > 2147483647) = false := decide_eq_false (by omega)
    have g2_1 : decide (2147483647 < z) = false := decide_eq_false (by omega)
    have g3_0 : decide (d < 0) = false := decide_eq_false (by omega)
    have g4_0 : decide (d > 2147483647) = true := decide_eq_true (by omega)
    have g4_1 : decide (2147483647 < d) = true := decide_eq_true (by omega)
    clear h hB hM q0 q1 q2 q3 q4
    go_enter Try.func12, Try.ntmps12
    go_wp2
    refine bodyPost_ret (results_none rfl _ _ _) rfl ?_
    exact ⟨rfl, HP.out⟩
  have g0_0 : decide (a < 1) = false := decide_eq_false (by omega)
  have g1_0 : decide (z < a) = false := decide_eq_false (by omega)
  have g2_0 : decide (z > 2147483647) = false := decide_eq_false (by omega)
  have g2_1 : decide (2147483647 < z) = false := decide_eq_false (by omega)
  have g3_0 : decide (d < 0) = false := decide_eq_false (by omega)
  have g4_0 : decide (d > 2147483647) = false := decide_eq_false (by omega)
  have g4_1 : decide (2147483647 < d) = false := decide_eq_false (by omega)
  have u1 : wrap64 (a - 1) = a - 1 := by unfold wrap64; omega
  have u2 : wrap64 (d + 1) = d + 1 := by unfold wrap64; omega
  by_cases q5 : z < d
  · have e1 : decide (d > z) = true := decide_eq_true q5
    have e2 : decide (z < d) = true := decide_eq_true q5
    have HC : Hid (∀ p W, p = w.heap.size → Kp w W → Lc 3 p [.int .i64 (a)] W → Lc 3 (p + 1) [.int .i64 (z)] W → Lc 3 (p + 2) [.int .i64 d] W → Calls Try.prog 26 #[.pointer (some ⟨t, 0, none⟩), .func (.func 33) #[] #[.pointer (some ⟨p, 0, none⟩), .pointer (some ⟨p + 2, 0, none⟩), .pointer (some ⟨p + 1, 0, none⟩)]] W fun e w' => e = .returned (.tuple #[]) ∧ Mk t b (mvF f a z d) w' ∧ Fr (On b) w w') := fun p W hp hk c1 c2 c3 => by
      refine (follow_any (h.kp hk) hB (crs_exc (by omega) (by omega) (by omega) hM c1 c2 c3) ent33).mono ?_
      rintro e w' ⟨he, hm, hf⟩
      refine ⟨he, ?_, (Fr.of_below hk).trans hf⟩
      unfold mvF; rw [if_neg (by omega), if_pos q5]; exact hm
    clear h hB hM q0 q1 q2 q3 q4 q5
    go_enter Try.func12, Try.ntmps12
    go_wp2_with fail
    refine Calls.mono (exch_any (a) (z) d w) ?_
    rintro e w2 ⟨p, hp, rfl, hk, c1, c2, c3⟩
    have HD := HC.out p w2 hp hk c1 c2 c3
    clear HC hp hk c1 c2 c3
    go_wp2_with fail
    refine Calls.mono HD ?_
    rintro e w3 ⟨rfl, hP⟩
    have HP : Hid (Mk t b (mvF f a z d) w3 ∧ Fr (On b) w w3) := hP
    clear hP HD
    go_wp2
    go_end0
    exact ⟨rfl, HP.out⟩
  · have e1 : decide (d > z) = false := decide_eq_false q5
    have e2 : decide (z < d) = false := decide_eq_false q5
    by_cases q6 : d < a - 1
    · have e3 : decide (d < a - 1) = true := decide_eq_true q6
      have HC : Hid (∀ p W, p = w.heap.size → Kp w W → Lc 3 p [.int .i64 (d + 1)] W → Lc 3 (p + 1) [.int .i64 (a - 1)] W → Lc 3 (p + 2) [.int .i64 z] W → Calls Try.prog 26 #[.pointer (some ⟨t, 0, none⟩), .func (.func 33) #[] #[.pointer (some ⟨p, 0, none⟩), .pointer (some ⟨p + 2, 0, none⟩), .pointer (some ⟨p + 1, 0, none⟩)]] W fun e w' => e = .returned (.tuple #[]) ∧ Mk t b (mvF f a z d) w' ∧ Fr (On b) w w') := fun p W hp hk c1 c2 c3 => by
        refine (follow_any (h.kp hk) hB (crs_exc (by omega) (by omega) (by omega) hM c1 c2 c3) ent33).mono ?_
        rintro e w' ⟨he, hm, hf⟩
        refine ⟨he, ?_, (Fr.of_below hk).trans hf⟩
        unfold mvF; rw [if_neg (by omega), if_neg q5, if_pos q6]; exact hm
      clear h hB hM q0 q1 q2 q3 q4 q5 q6
      go_enter Try.func12, Try.ntmps12
      go_wp2_with fail
      refine Calls.mono (exch_any (d + 1) (a - 1) z w) ?_
      rintro e w2 ⟨p, hp, rfl, hk, c1, c2, c3⟩
      have HD := HC.out p w2 hp hk c1 c2 c3
      clear HC hp hk c1 c2 c3
      go_wp2_with fail
      refine Calls.mono HD ?_
      rintro e w3 ⟨rfl, hP⟩
      have HP : Hid (Mk t b (mvF f a z d) w3 ∧ Fr (On b) w w3) := hP
      clear hP HD
      go_wp2
      go_end0
      exact ⟨rfl, HP.out⟩
    · have e3 : decide (d < a - 1) = false := decide_eq_false q6
      have HP : Hid (Mk t b (mvF f a z d) w ∧ Fr (On b) w w) := by unfold mvF; rw [if_neg (by omega), if_neg q5, if_neg q6]; exact ⟨h, Fr.refl _ _⟩
      clear h hB hM q0 q1 q2 q3 q4 q5 q6
      go_enter Try.func12, Try.ntmps12
      go_wp2
      go_end0
      exact ⟨rfl, HP.out⟩
end
end Go.Proofs.Ytmceophmdkcgcaa
/- The chapter's example holds; which names are marks. -/
namespace Go.Proofs.Ytmceophmdkcgcaa
open Go.ChangeShapes Go.WideShapes Go.ChangeAt Go.RowKit Go.Maps Go.MapKept
set_option linter.unusedVariables false
set_option linter.unusedSimpArgs false
section
variable {t b : Nat} {f : Mf} {w w1 w2 : World}
theorem Fr.kpn {n : Nat} (h : Kp w w1) (h' : Fr (On b) w1 w2) (hb : w.heap.size ≤ b) : Kp w w2 :=
  ⟨h'.os.trans h.os, h'.tape.trans h.tape, h'.output.trans h.output, Nat.le_trans h.size h'.size, fun k hk => (h'.block k (Nat.lt_of_lt_of_le hk h.size) (fun q => by unfold On at q; omega)).trans (h.block k hk)⟩
theorem bd_none (M : Int) : Bd M (fun _ => none) := fun x c h => by cases h
theorem setF_bd {M : Int} (h : Bd M f) (hM : 2147483647 ≤ M) (x line : Int) : Bd M (setF f x line) := by
  unfold setF
  split
  · rename_i q
    intro y c hy
    unfold setM at hy
    split at hy
    · cases hy
      unfold setE at q
      split at q
      · cases q
      · split at q
        · cases q
        · omega
    · exact h y c hy
  · exact h
theorem Bd.mono {M M' : Int} (h : Bd M f) (hM : M ≤ M') : Bd M' f := fun x c hx => by have := h x c hx; omega
set_option maxHeartbeats 8000000 in
set_option maxRecDepth 100000 in
theorem kknown_any (w : World) : Calls Try.prog 8 #[] w fun e w' => e = .returned (.bool true) ∧ Kp w w' := by
  go_enter Try.func8, Try.ntmps8
  go_wp2_with fail
  refine Calls.mono (new_any w) ?_
  rintro e w1 ⟨t, b, rfl, h1, k1, ht, hb⟩
  have HK : Hid (Kp w w1) := k1
  have HH : Hid (Mk t b (fun _ => none) w1) := h1
  clear h1 k1
  go_wp2_with fail
  refine Calls.mono (set_any HH.out (x := 97) (by decide) (by decide) 5) ?_
  rintro e w2 ⟨rfl, h2, f2⟩
  have HK2 : Hid (Kp w w2) := Fr.kpn (n := 0) HK.out f2 hb
  have HH2 : Hid (Mk t b (setF (fun _ => none) 97 5) w2) := h2
  clear h2 f2 HK HH
  go_wp2_with fail
  refine Calls.mono (splice_any HH2.out (setF_bd (bd_none 2147483647) (by decide) _ _) (by decide) 2 1 3) ?_
  rintro e w3 ⟨rfl, h3, f3⟩
  have HK3 : Hid (Kp w w3) := Fr.kpn (n := 0) HK2.out f3 hb
  have HH3 : Hid (Mk t b (spF (setF (fun _ => none) 97 5) 2 1 3) w3) := h3
  clear h3 f3 HK2 HH2
  go_wp2_with fail
  refine Calls.mono (get_any HH3.out (x := 97) (by decide) (by decide)) ?_
  rw [show (spF (setF (fun _ => none) 97 5) 2 1 3) 97 = some 7 by decide]
  rintro e _ ⟨rfl, rfl⟩
  go_wp2_with fail
  refine Calls.mono (splice_any HH3.out (spF_bd (setF_bd (bd_none 2147483647) (by decide) _ _) _ _ _) (by decide) 7 2 0) ?_
  rintro e w4 ⟨rfl, h4, f4⟩
  have HK4 : Hid (Kp w w4) := Fr.kpn (n := 0) HK3.out f4 hb
  have HH4 : Hid (Mk t b (spF (spF (setF (fun _ => none) 97 5) 2 1 3) 7 2 0) w4) := h4
  clear h4 f4 HK3 HH3
  go_wp2_with fail
  refine Calls.mono (get_any HH4.out (x := 97) (by decide) (by decide)) ?_
  rw [show (spF (spF (setF (fun _ => none) 97 5) 2 1 3) 7 2 0) 97 = none by decide]
  rintro e _ ⟨rfl, rfl⟩
  go_wp2_with fail
  refine Calls.mono (set_any HH4.out (x := 65) (by decide) (by decide) 1) ?_
  rintro e w5 ⟨rfl, h5, f5⟩
  have HK5 : Hid (Kp w w5) := Fr.kpn (n := 0) HK4.out f5 hb
  clear h5 f5 HK4 HH4
  rw [show setE 65 1 = 100 by decide]
  go_wp2
  go_ret
  exact ⟨rfl, HK5.out⟩
set_option maxHeartbeats 8000000 in
set_option maxRecDepth 100000 in
theorem names_walk (x : Nat) (hx : x < 256) (line : Int) (w : World) : Calls Try.prog 4 #[.int .u8 x, .int .i64 line] w fun e w' => e = .returned (.bool true) ∧ Kp w w' := by
  have HX : Hid ((0 : Int) ≤ x ∧ (x : Int) < 256) := ⟨by omega, by omega⟩
  clear hx
  go_enter Try.func4, Try.ntmps4
  go_wp2_with fail
  refine Calls.mono (new_any w) ?_
  rintro e w1 ⟨t, b, rfl, h1, k1, ht, hb⟩
  have HK : Hid (Kp w w1) := k1
  have HH : Hid (Mk t b (fun _ => none) w1) := h1
  clear h1 k1
  go_wp2_with fail
  refine Calls.mono (kknown_any w1) ?_
  rintro e w2 ⟨rfl, k2⟩
  have HK2 : Hid (Kp w w2) := kp_trans HK.out k2
  have HH2 : Hid (Mk t b (fun _ => none) w2) := HH.out.kp k2
  clear k2 HK HH
  go_wp2_with fail
  refine Calls.mono (get_any HH2.out HX.out.1 HX.out.2) ?_
  simp only [Option.getD_none, Option.isSome_none, Bool.false_eq_true, if_false]
  rintro e _ ⟨rfl, rfl⟩
  go_wp2_with fail
  refine Calls.mono (set_any HH2.out HX.out.1 HX.out.2 line) ?_
  rintro e w3 ⟨rfl, h3, f3⟩
  have HK3 : Hid (Kp w w3) := Fr.kpn (n := 0) HK2.out f3 hb
  have HH3 : Hid (Mk t b (setF (fun _ => none) x line) w3) := h3
  clear h3 f3 HK2 HH2
  go_wp2_with fail
  refine Calls.mono (get_any HH3.out HX.out.1 HX.out.2) ?_
  by_cases q : (x : Int) < 97 ∨ 122 < (x : Int)
  · have hE : setE x line = 100 := by unfold setE; rw [if_pos q]
    unfold setF; rw [hE]
    simp only [Option.getD_none, Option.isSome_none, Bool.false_eq_true, if_false, show ¬ ((100 : Int) = 0) by decide]
    rintro e _ ⟨rfl, rfl⟩
    by_cases q1 : (x : Int) < 97
    · have d1 : decide ((x : Int) ≥ 97) = false := decide_eq_false (by omega)
      have d2 : decide ((97 : Int) ≤ x) = false := decide_eq_false (by omega)
      have d3 : decide (97 ≤ x) = false := decide_eq_false (by omega)
      clear q q1 hE HH3
      go_wp2
      go_ret
      exact ⟨rfl, HK3.out⟩
    · have d1 : decide ((x : Int) ≥ 97) = true := decide_eq_true (by omega)
      have d2 : decide ((97 : Int) ≤ x) = true := decide_eq_true (by omega)
      have d3 : decide (97 ≤ x) = true := decide_eq_true (by omega)
      have d4 : decide ((x : Int) ≤ 122) = false := decide_eq_false (by omega)
      have d5 : decide (x ≤ 122) = false := decide_eq_false (by omega)
      clear q q1 hE HH3
      go_wp2
      go_ret
      exact ⟨rfl, HK3.out⟩
  · have d1 : decide ((x : Int) ≥ 97) = true := decide_eq_true (by omega)
    have d2 : decide ((97 : Int) ≤ x) = true := decide_eq_true (by omega)
    have d3 : decide (97 ≤ x) = true := decide_eq_true (by omega)
    have d4 : decide ((x : Int) ≤ 122) = true := decide_eq_true (by omega)
    have d5 : decide (x ≤ 122) = true := decide_eq_true (by omega)
    by_cases p : line < 1 ∨ 2147483647 < line
    · have hE : setE x line = 1 := by unfold setE; rw [if_neg q, if_pos p]
      unfold setF; rw [hE]
      simp only [Option.getD_none, Option.isSome_none, Bool.false_eq_true, if_false, show ¬ ((1 : Int) = 0) by decide]
      rintro e _ ⟨rfl, rfl⟩
      by_cases p1 : line < 1
      · have d6 : decide (line ≥ 1) = false := decide_eq_false (by omega)
        have d7 : decide (1 ≤ line) = false := decide_eq_false (by omega)
        clear q p p1 hE HH3
        go_wp2
        go_ret
        exact ⟨rfl, HK3.out⟩
      · have d6 : decide (line ≥ 1) = true := decide_eq_true (by omega)
        have d7 : decide (1 ≤ line) = true := decide_eq_true (by omega)
        have d8 : decide (line ≤ 2147483647) = false := decide_eq_false (by omega)
        clear q p p1 hE HH3
        go_wp2
        go_ret
        exact ⟨rfl, HK3.out⟩
    · have hE : setE x line = 0 := by unfold setE; rw [if_neg q, if_neg p]
      have d6 : decide (line ≥ 1) = true := decide_eq_true (by omega)
      have d7 : decide (1 ≤ line) = true := decide_eq_true (by omega)
      have d8 : decide (line ≤ 2147483647) = true := decide_eq_true (by omega)
      unfold setF setM; rw [hE]
      simp only [if_true, Option.getD_some, Option.isSome_some]
      rintro e _ ⟨rfl, rfl⟩
      clear q p hE HH3
      go_wp2
      go_ret
      exact ⟨rfl, HK3.out⟩
end
end Go.Proofs.Ytmceophmdkcgcaa
/- A row of bytes that is sorted in place; what is less. -/
namespace Go.Proofs.Ytmceophmdkcgcaa
open Go.ChangeShapes Go.WideShapes Go.ChangeAt Go.RowKit Go.Sort
set_option linter.unusedVariables false
set_option linter.unusedSimpArgs false
def ltZ (x y : Int) : Bool := decide (x < y)
theorem swoZ : SWO ltZ := ⟨fun x => by simp [ltZ], fun x y z h1 h2 => by simp only [ltZ, decide_eq_true_eq] at *; omega, fun x y z h1 h2 => by simp only [ltZ, decide_eq_false_iff_not] at *; omega⟩
/-- In block g lie these bytes first. -/
def Rw (g : Nat) (d : Array Int) (w : World) : Prop := ∃ cur, w.heap[g]? = some (.cells cur 5 (0, 0)) ∧ d.size ≤ cur.size ∧ ∀ i, i < d.size → cur[i]? = some (.int .u8 d[i]!)
section
variable {g : Nat} {d : Array Int} {w w1 : World}
theorem Rw.lt (h : Rw g d w) : g < w.heap.size := by obtain ⟨c, h, _⟩ := h; exact (Array.getElem?_eq_some_iff.1 h).1
theorem Rw.heap (h : Rw g d w) (he : w1.heap[g]? = w.heap[g]?) : Rw g d w1 := by obtain ⟨c, h, r⟩ := h; exact ⟨c, he.trans h, r⟩
theorem Rw.kp (h : Rw g d w) (k : Kp w w1) : Rw g d w1 := h.heap (k.block g h.lt)
theorem Rw.fr {S : Nat → Prop} (h : Rw g d w) (k : Fr S w w1) (hn : ¬ S g) : Rw g d w1 := h.heap (k.block g h.lt hn)
theorem Rw.cell (h : Rw g d w) {i : Nat} (hi : i < d.size) : w.cell? ⟨g, i, none⟩ = some (.int .u8 d[i]!) := by
  obtain ⟨c, h, _, r⟩ := h; rw [cell_at h]; exact r i hi
theorem Rw.fz (h : Rw g d w) (i : Nat) : w.frozen? ⟨g, i, none⟩ = false := by obtain ⟨c, h, _⟩ := h; simp [World.frozen?, h]
theorem Rw.drew (h : Rw g d w) (n : Nat) : Rw g d (w.drewN n) := h.kp (kp_drewN _ _)
theorem Rw.set (h : Rw g d w) {i : Nat} (x : Int) : Rw g (d.setIfInBounds i x) (w.setCell ⟨g, i, none⟩ (.int .u8 x)) := by
  obtain ⟨c, h, hs, r⟩ := h
  refine ⟨_, heap_setCell h, by simpa using hs, fun k hk => ?_⟩
  rw [Array.size_setIfInBounds] at hk
  by_cases q : i = k
  · subst q
    rw [Array.getElem?_setIfInBounds_self_of_lt (by omega)]
    simp [getElem!_def, Array.getElem?_setIfInBounds, hk]
  · rw [Array.getElem?_setIfInBounds_ne q, r k hk]
    simp [getElem!_def, Array.getElem?_setIfInBounds, q]
/-- Two bytes change places. -/
theorem Rw.swp (h : Rw g d w) {i j : Nat} {x y : Int} (hx : d[j]! = x) (hy : d[i]! = y) (n : Nat) : Rw g (swp d i j) (((w.setCell ⟨g, i, none⟩ (.int .u8 x)).setCell ⟨g, j, none⟩ (.int .u8 y)).drewN n) ∧ Fr (On g) w (((w.setCell ⟨g, i, none⟩ (.int .u8 x)).setCell ⟨g, j, none⟩ (.int .u8 y)).drewN n) := by
  refine ⟨?_, ((fr_set g i _ w).trans (fr_set g j _ _)).trans (Fr.drewN _ _ _)⟩
  unfold Go.Sort.swp; rw [hx, hy]; exact ((h.set x).set y).drew n
end
set_option maxHeartbeats 1000000 in
theorem nan_any (x : Int) (w : World) : Calls Try.prog 55 #[.int .u8 x] w fun e w' => e = .returned (.bool false) ∧ w' = w := by
  go_enter Try.func55, Try.ntmps55
  go_wp2
  go_ret
  exact ⟨by simp, rfl⟩
set_option maxHeartbeats 1000000 in
theorem less_any (x y : Int) (w : World) : Calls Try.prog 45 #[.int .u8 x, .int .u8 y] w fun e w' => e = .returned (.bool (ltZ x y)) ∧ w' = w := by
  go_enter Try.func45, Try.ntmps45
  go_wp2_with (go_at_call 55; refine Calls.mono (nan_any _ _) ?_; rintro e w' ⟨rfl, rfl⟩)
  go_ret
  exact ⟨rfl, rfl⟩
end Go.Proofs.Ytmceophmdkcgcaa
/- Sorted by putting in; turned round. -/
namespace Go.Proofs.Ytmceophmdkcgcaa
open Go.ChangeShapes Go.WideShapes Go.ChangeAt Go.RowKit Go.Sort
set_option linter.unusedVariables false
set_option linter.unusedSimpArgs false
section
variable {g : Nat} {d : Array Int} {w w1 : World}
theorem insInner_stop {a j : Nat} (h : j = 0 ∨ ¬ j > a ∨ ∃ k, j = k + 1 ∧ ltZ d[k + 1]! d[k]! = false) : insInner ltZ a j d = d := by
  cases j with
  | zero => rfl
  | succ k =>
    unfold insInner
    rw [if_neg]
    simp only [Bool.and_eq_true, decide_eq_true_eq, not_and]
    intro q
    rcases h with h | h | ⟨k', h1, h2⟩
    · cases h
    · exact absurd q h
    · cases h1; simp [h2]
theorem insInner_step {a k : Nat} (h1 : k + 1 > a) (h2 : ltZ d[k + 1]! d[k]! = true) : insInner ltZ a (k + 1) d = insInner ltZ a k (swp d (k + 1) k) := by
  conv => lhs; unfold insInner
  rw [if_pos]
  simp [h1, h2]
theorem insOuter_step {a b i : Nat} (h : i < b) : insOuter ltZ a b i d = insOuter ltZ a b (i + 1) (insInner ltZ a i d) := by
  conv => lhs; unfold insOuter
  rw [if_pos h]
theorem insOuter_stop {a b i : Nat} (h : ¬ i < b) : insOuter ltZ a b i d = d := by unfold insOuter; rw [if_neg h]
set_option maxHeartbeats 8000000 in
set_option maxRecDepth 100000 in
theorem ins_any {n a b cap : Nat} (h : Rw g d w) (hn : d.size = n) (hab : a ≤ b) (hb : b ≤ n) (hn2 : n ≤ 1000) :
    Calls Try.prog 39 #[.slice (some ⟨g, 0, none⟩) n cap, .int .i64 a, .int .i64 b] w fun e w' => e = .returned (.tuple #[]) ∧ Rw g (insertionSort ltZ d a b) w' ∧ Fr (On g) w w' := by
  have H0 : Hid (Rw g d w ∧ d.size = n) := ⟨h, hn⟩
  clear h hn
  go_enter Try.func39, Try.ntmps39
  go_wp2_with fail
  go_loopw [6] (fun v6 wr => ∃ (i : Nat) (d' : Array Int), v6 = .int .i64 i ∧ i ≤ n + 1 ∧ a + 1 ≤ i ∧ Hid (d'.size = n ∧ Rw g d' wr ∧ Fr (On g) w wr ∧ insOuter ltZ a b i d' = insertionSort ltZ d a b)) (fun v6 _ => n + 1 - (intOf v6).toNat)
  case atStart => exact ⟨a + 1, d, by go_num, by omega, by omega, H0.out.2, H0.out.1, Fr.refl _ _, rfl⟩
  case round =>
    obtain ⟨i, d', rfl, hi, hia, HI⟩ := hrel
    by_cases q : i < b
    · have d1 : decide ((i : Int) < (b : Int)) = true := decide_eq_true (by omega)
      have d2 : decide (i < b) = true := decide_eq_true (by omega)
      have HI2 : Hid (∀ wr2, Rw g (insInner ltZ a i d') wr2 → Fr (On g) w wr2 → (insInner ltZ a i d').size = n → Hid ((insInner ltZ a i d').size = n ∧ Rw g (insInner ltZ a i d') wr2 ∧ Fr (On g) w wr2 ∧ insOuter ltZ a b (i + 1) (insInner ltZ a i d') = insertionSort ltZ d a b)) := fun wr2 h1 h2 h3 => ⟨h3, h1, h2, by rw [← insOuter_step q]; exact HI.out.2.2.2⟩
      have qn : i < n := by omega
      go_wp2_with fail
      go_loopw [7] (fun v7 wr2 => ∃ (j : Nat) (e : Array Int), v7 = .int .i64 j ∧ j ≤ i ∧ Hid (e.size = n ∧ Rw g e wr2 ∧ Fr (On g) w wr2 ∧ insInner ltZ a j e = insInner ltZ a i d')) (fun v7 _ => (intOf v7).toNat)
      case atStart => exact ⟨i, d', rfl, Nat.le_refl _, HI.out.1, HI.out.2.1, HI.out.2.2.1, rfl⟩
      case round =>
        obtain ⟨j, e, rfl, hj, HJ⟩ := hrel
        by_cases p : j > a
        · obtain ⟨k, hk⟩ : ∃ k, j = k + 1 := ⟨j - 1, by omega⟩
          have e1 : decide ((j : Int) > (a : Int)) = true := decide_eq_true (by omega)
          have e2 : decide ((a : Int) < (j : Int)) = true := decide_eq_true (by omega)
          have e3 : decide (a < j) = true := decide_eq_true (by omega)
          have e4 : (j : Int) - 1 = (k : Int) := by omega
          have hsz := HJ.out.1
          have c1 := HJ.out.2.1.cell (i := j) (by omega)
          have c2 := HJ.out.2.1.cell (i := k) (by omega)
          have f1 := HJ.out.2.1.fz j
          have f2 := HJ.out.2.1.fz k
          have l1 : j < n := by omega
          have l2 : k < n := by omega
          obtain ⟨x, hx⟩ : ∃ x, e[j]! = x := ⟨_, rfl⟩
          obtain ⟨y, hy⟩ : ∃ y, e[k]! = y := ⟨_, rfl⟩
          rw [hx] at c1
          rw [hy] at c2
          have HXY : Hid (e[j]! = x ∧ e[k]! = y ∧ j = k + 1) := ⟨hx, hy, hk⟩
          clear hx hy hsz hk HI q d1 d2 e2 e3
          cases hl : ltZ x y with
          | false =>
            have HE : Hid (∀ m, Hid ((insInner ltZ a i d').size = n ∧ Rw g (insInner ltZ a i d') (wr.drewN m) ∧ Fr (On g) w (wr.drewN m) ∧ insOuter ltZ a b (i + 1) (insInner ltZ a i d') = insertionSort ltZ d a b)) := fun m => by
              have e0 : insInner ltZ a i d' = e := by
                rw [← HJ.out.2.2.2]; exact insInner_stop (.inr (.inr ⟨k, HXY.out.2.2, by rw [← HXY.out.2.2, HXY.out.1, HXY.out.2.1]; exact hl⟩))
              refine HI2.out _ ?_ ?_ ?_
              · rw [e0]; exact HJ.out.2.1.drew m
              · exact HJ.out.2.2.1.trans (Fr.drewN _ _ _)
              · rw [e0]; exact HJ.out.1
            go_wp2_with fail
            go_quiet ((go_at_call 45; have HC := less_any x y; rw [hl] at HC; exact Calls.quiet_of_same (HC _)))
            replace HE := HE.out nq
            clear c1 c2 f1 f2 HJ HI2
            go_wp2_with fail
            go_roundw
            case rel => exact ⟨i + 1, _, by go_num, by omega, by omega, HE⟩
            case measure => simp only [intOf]; omega
          | true =>
            have HE : Hid (∀ m m', Hid ((swp e j k).size = n ∧ Rw g (swp e j k) ((((wr.drewN m).setCell ⟨g, j, none⟩ (.int .u8 y)).setCell ⟨g, k, none⟩ (.int .u8 x)).drewN m') ∧ Fr (On g) w ((((wr.drewN m).setCell ⟨g, j, none⟩ (.int .u8 y)).setCell ⟨g, k, none⟩ (.int .u8 x)).drewN m') ∧ insInner ltZ a k (swp e j k) = insInner ltZ a i d')) := fun m m' => by
              obtain ⟨q1, q2⟩ := (HJ.out.2.1.drew m).swp (i := j) (j := k) HXY.out.2.1 HXY.out.1 m'
              refine ⟨by rw [size_swp]; exact HJ.out.1, q1, (HJ.out.2.2.1.trans (Fr.drewN _ _ _)).trans q2, ?_⟩
              rw [← HJ.out.2.2.2, HXY.out.2.2]
              rw [insInner_step (by have := HXY.out.2.2; omega) (by rw [← HXY.out.2.2, HXY.out.1, HXY.out.2.1]; exact hl)]
            go_wp2_with fail
            go_quiet ((go_at_call 45; have HC := less_any x y; rw [hl] at HC; exact Calls.quiet_of_same (HC _)))
            replace HE := HE.out nq
            have R5 := HJ.out.2.1.drew nq
            replace c1 := kp_cell (kp_drewN wr nq) c1
            replace c2 := kp_cell (kp_drewN wr nq) c2
            replace f1 := R5.fz j
            replace f2 := R5.fz k
            obtain ⟨w5, hw5⟩ : ∃ w5, wr.drewN nq = w5 := ⟨_, rfl⟩
            rw [hw5] at c1 c2 f1 f2 HE ⊢
            clear hw5 R5 HJ HI2 hl
            have hjk : j ≠ k := by have := HXY.out.2.2; omega
            go_wp2_with fail
            go_region
            go_wp2_with fail
            have := HXY.out.2.2
            exact ⟨⟨k, swp e j k, rfl, by omega, HE 1⟩, by simp only [intOf]; omega⟩
        · have e1 : decide ((j : Int) > (a : Int)) = false := decide_eq_false (by omega)
          have e2 : decide ((a : Int) < (j : Int)) = false := decide_eq_false (by omega)
          have e3 : decide (a < j) = false := decide_eq_false (by omega)
          have HE : Hid (∀ m, Hid ((insInner ltZ a i d').size = n ∧ Rw g (insInner ltZ a i d') (wr.drewN m) ∧ Fr (On g) w (wr.drewN m) ∧ insOuter ltZ a b (i + 1) (insInner ltZ a i d') = insertionSort ltZ d a b)) := fun m => by
            have e0 : insInner ltZ a i d' = e := by rw [← HJ.out.2.2.2]; exact insInner_stop (.inr (.inl p))
            refine HI2.out _ ?_ ?_ ?_
            · rw [e0]; exact HJ.out.2.1.drew m
            · exact HJ.out.2.2.1.trans (Fr.drewN _ _ _)
            · rw [e0]; exact HJ.out.1
          clear HI q d1 d2
          go_wp2_with fail
          go_quiet (fail)
          replace HE := HE.out nq
          clear HJ HI2
          go_wp2_with fail
          go_roundw
          case rel => exact ⟨i + 1, _, by go_num, by omega, by omega, HE⟩
          case measure => simp only [intOf]; omega
    · have d1 : decide ((i : Int) < (b : Int)) = false := decide_eq_false (by omega)
      have d2 : decide (i < b) = false := decide_eq_false (by omega)
      have HE : Hid (Rw g (insertionSort ltZ d a b) wr ∧ Fr (On g) w wr) := by
        have e0 : d' = insertionSort ltZ d a b := by rw [← HI.out.2.2.2, insOuter_stop q]
        rw [← e0]; exact ⟨HI.out.2.1, HI.out.2.2.1⟩
      clear HI H0 q
      go_wp2_with fail
      go_end0
      exact ⟨rfl, HE.out⟩
theorem rev_step {i j : Nat} (h : i < j) : reverseLoop i j d = reverseLoop (i + 1) (j - 1) (swp d i j) := by
  conv => lhs; unfold reverseLoop
  rw [if_pos h]
theorem rev_stop {i j : Nat} (h : ¬ i < j) : reverseLoop i j d = d := by unfold reverseLoop; rw [if_neg h]
set_option maxHeartbeats 8000000 in
set_option maxRecDepth 100000 in
theorem rev_any {n a b cap : Nat} (h : Rw g d w) (hn : d.size = n) (hab : a < b) (hb : b ≤ n) (hn2 : n ≤ 1000) :
    Calls Try.prog 43 #[.slice (some ⟨g, 0, none⟩) n cap, .int .i64 a, .int .i64 b] w fun e w' => e = .returned (.tuple #[]) ∧ Rw g (reverseRange d a b) w' ∧ Fr (On g) w w' := by
  have H0 : Hid (Rw g d w ∧ d.size = n) := ⟨h, hn⟩
  obtain ⟨z, hz⟩ : ∃ z, b = z + 1 := ⟨b - 1, by omega⟩
  have e0 : (b : Int) - 1 = (z : Int) := by omega
  have hr : reverseRange d a b = reverseLoop a z d := by unfold reverseRange; rw [hz]; rfl
  rw [hr]
  have hzn : z < n := by omega
  clear h hn hr hz hb
  go_enter Try.func43, Try.ntmps43
  go_wp2_with fail
  go_loopw [6, 7] (fun v6 v7 wr => ∃ (i j : Nat) (e : Array Int), v6 = .int .i64 i ∧ v7 = .int .i64 j ∧ j < n ∧ i ≤ n ∧ Hid (e.size = n ∧ Rw g e wr ∧ Fr (On g) w wr ∧ reverseLoop i j e = reverseLoop a z d)) (fun v6 v7 _ => n + (intOf v7).toNat - (intOf v6).toNat)
  case atStart => exact ⟨a, z, d, rfl, rfl, hzn, by omega, H0.out.2, H0.out.1, Fr.refl _ _, rfl⟩
  case round =>
    obtain ⟨i, j, e, rfl, rfl, hj, hi, HI⟩ := hrel
    clear e0
    by_cases q : i < j
    · have d1 : decide ((i : Int) < (j : Int)) = true := decide_eq_true (by omega)
      have d2 : decide (i < j) = true := decide_eq_true (by omega)
      obtain ⟨k, hk⟩ : ∃ k, j = k + 1 := ⟨j - 1, by omega⟩
      have e4 : (j : Int) - 1 = (k : Int) := by omega
      have hsz := HI.out.1
      have l1 : i < n := by omega
      have c1 := HI.out.2.1.cell (i := i) (by omega)
      have c2 := HI.out.2.1.cell (i := j) (by omega)
      have f1 := HI.out.2.1.fz i
      have f2 := HI.out.2.1.fz j
      obtain ⟨x, hx⟩ : ∃ x, e[i]! = x := ⟨_, rfl⟩
      obtain ⟨y, hy⟩ : ∃ y, e[j]! = y := ⟨_, rfl⟩
      rw [hx] at c1
      rw [hy] at c2
      have HE : Hid (∀ m', Hid ((swp e i j).size = n ∧ Rw g (swp e i j) (((wr.setCell ⟨g, i, none⟩ (.int .u8 y)).setCell ⟨g, j, none⟩ (.int .u8 x)).drewN m') ∧ Fr (On g) w (((wr.setCell ⟨g, i, none⟩ (.int .u8 y)).setCell ⟨g, j, none⟩ (.int .u8 x)).drewN m') ∧ reverseLoop (i + 1) k (swp e i j) = reverseLoop a z d)) := fun m' => by
        obtain ⟨q1, q2⟩ := HI.out.2.1.swp (i := i) (j := j) hy hx m'
        refine ⟨by rw [size_swp]; exact HI.out.1, q1, HI.out.2.2.1.trans q2, ?_⟩
        rw [← HI.out.2.2.2, rev_step q, hk]; rfl
      have HJK : Hid (j = k + 1) := hk
      have hij : i ≠ j := by omega
      clear hx hy hsz hk HI H0
      go_wp2_with fail
      go_region
      go_wp2_with fail
      have := HJK.out
      exact ⟨⟨i + 1, k, swp e i j, by go_num, rfl, by omega, by omega, HE.out 1⟩, by simp only [intOf]; omega⟩
    · have d1 : decide ((i : Int) < (j : Int)) = false := decide_eq_false (by omega)
      have d2 : decide (i < j) = false := decide_eq_false (by omega)
      have HE : Hid (Rw g (reverseLoop a z d) wr ∧ Fr (On g) w wr) := by
        rw [← HI.out.2.2.2, rev_stop q]; exact ⟨HI.out.2.1, HI.out.2.2.1⟩
      clear HI H0 q
      go_wp2_with fail
      go_end0
      exact ⟨rfl, HE.out⟩
end
end Go.Proofs.Ytmceophmdkcgcaa
