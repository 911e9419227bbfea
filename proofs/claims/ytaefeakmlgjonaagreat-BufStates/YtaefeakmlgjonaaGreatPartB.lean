/- Texts that the proof of the law stands on: VH, VJ, VK, VL, VN, VP, VQ, VR. -/
import Derived.Test.YtaefeakmlgjonaaGreatPartA
import Derived.Lib.MinMax
import Derived.RangeFuncNested
import Derived.RangeFuncBound
import Derived.RangeFuncCalls
import Derived.RangeFuncLeaves
import Derived.RangeFuncWrites
import Derived.RangeFuncBox
import Derived.Sort.MapsRangeIn
import Derived.OwnWalkIn
import Derived.TacticsInMore
import Derived.RegionIn
import Derived.LoopNIn
import Derived.LoopIn
import Derived.Shelf.Abstract
/- A tree of states in memory. -/
namespace Go.Proofs.YtaefeakmlgjonaaGreat
open Go.ChangeShapes Go.WideShapes Go.ChangeAt Go.RowKit Go.Maps Go.MapKept
set_option linter.unusedVariables false
set_option linter.unusedSimpArgs false
set_option maxRecDepth 100000
/-- Only blocks from B on of which T speaks have turned. -/
def Ff (T : Obj → Prop) (B : Nat) (w w' : World) : Prop := Fr (fun k => B ≤ k ∧ ∃ o, w.heap[k]? = some o ∧ T o) w w'
section
variable {T : Obj → Prop} {B : Nat} {w w1 w2 : World}
theorem Ff.keep (h : Ff T B w w1) {k : Nat} {o : Obj} (hk : w.heap[k]? = some o) (hT : ¬ T o) : w1.heap[k]? = some o := by
  rw [Fr.block h k (Array.getElem?_eq_some_iff.1 hk).1 ?_]
  · exact hk
  · rintro ⟨_, o', e, q⟩; rw [hk] at e; cases e; exact hT q
theorem Ff.refl (T : Obj → Prop) (B : Nat) (w : World) : Ff T B w w := Fr.refl _ _
theorem Ff.trans (h : Ff T B w w1) (h' : Ff T B w1 w2) : Ff T B w w2 := by
  refine Fr.trans' h h' fun k hk ⟨hB, o, ho, q⟩ => ⟨hB, ?_⟩
  obtain ⟨o0, h0⟩ : ∃ o0, w.heap[k]? = some o0 := ⟨_, Array.getElem?_eq_getElem hk⟩
  by_cases p : T o0
  · exact ⟨o0, h0, p⟩
  · have := h.keep h0 p
    rw [ho] at this; cases this; exact absurd q p
theorem Ff.kp (h : Kp w w1) : Ff T B w w1 := Fr.of_below h
theorem Ff.on {b : Nat} {o : Obj} (h : Fr (On b) w w1) (hb : B ≤ b) (ho : w.heap[b]? = some o) (hT : T o) : Ff T B w w1 := Fr.mono h fun k _ e => by unfold On at e; subst e; exact ⟨hb, o, ho, hT⟩
theorem Ff.below (h : Ff T B w w1) (hB : B ≤ w.heap.size) : Below B w w1 := Fr.below h hB fun k hk ⟨q, _⟩ => by omega
theorem Ff.size (h : Ff T B w w1) : w.heap.size ≤ w1.heap.size := Fr.size h
theorem Ff.less {B' : Nat} (h : Ff T B w w1) (hB : B' ≤ B) : Ff T B' w w1 := Fr.mono h fun k _ ⟨q, o, e, p⟩ => ⟨by omega, o, e, p⟩
theorem row_ff {B' size n : Nat} {e : TypeId} {v : Value} {xs : List Value} (hr : w.ownsRow B' e size v n xs) (h : Ff T B w w1) (hT : ∀ cur fr, ¬ T (.cells cur e fr)) : w1.ownsRow B' e size v n xs := by
  refine row_fr hr h fun j hj ⟨_, o, ho, q⟩ => ?_
  rcases hr.2 with ⟨z, _⟩ | ⟨b, cap, cur, z, hb, hg, _⟩
  · rw [z] at hj; cases hj
  · rw [z] at hj; simp only [Value.ownBlock, Option.some.injEq] at hj; subst hj
    rw [hg] at ho; cases ho; exact hT _ _ q
theorem Lc.ff {t : TypeId} {b : Nat} {l : List Value} (h : Lc t b l w) (k : Ff T B w w1) (hT : ∀ cur fr, ¬ T (.cells cur t fr)) : Lc t b l w1 := k.keep h (hT _ _)
theorem Dx.ff {C D : Nat} {v : Value} {ds : List Dl} (h : Dx (Row C) D v ds w) (k : Ff T B w w1) (h1 : ∀ cur fr, ¬ T (.cells cur 89 fr)) (h2 : ∀ cur fr, ¬ T (.cells cur 9 fr)) : Dx (Row C) D v ds w1 := by
  obtain ⟨cs, r1, r2⟩ := h
  exact ⟨cs, row_ff r1 k h1, r2.imp fun _ _ q => row_ff q k h2⟩
theorem Dx.zero {C D : Nat} {v : Value} {ds : List Dl} (h : Dx (Row C) D v ds w) : Dw 0 v ds w := by
  obtain ⟨cs, r1, r2⟩ := h
  exact ⟨cs, row_lift r1 fun _ _ => Nat.zero_le _, r2.imp fun _ _ q => row_lift q fun _ _ => Nat.zero_le _⟩
theorem Dx.lower {C D E : Nat} {v : Value} {ds : List Dl} (h : Dx (Row C) D v ds w) (h1 : E ≤ C) (h2 : E ≤ D) : Dw E v ds w := by
  obtain ⟨cs, r1, r2⟩ := h
  exact ⟨cs, row_lift r1 fun j hj => Nat.le_trans h2 (r1.lt j hj).1, r2.imp fun _ _ q => row_lift q fun j hj => Nat.le_trans h1 (q.lt j hj).1⟩
end
/-- What package undo turns of what was there. -/
def TP : Obj → Prop
  | .map es _ => ∃ e ∈ es.toList, ∃ k, e.key = .int .i64 k
  | .cells _ e _ => e = 119 ∨ e = 123
  | _ => False
/-- A state. -/
structure St where
  seq : Int
  fr : Int
  on : Int
  by_ : List Dl
def look (L : List St) (x : Int) : Option St := L.find? fun s => decide (s.seq = x)
/-- The way on of one of them is another. -/
def setOn (L : List St) (x y : Int) : List St := L.map fun s => if s.seq = x then { s with on := y } else s
theorem look_cons (s : St) (L : List St) (x : Int) : look (s :: L) x = if s.seq = x then some s else look L x := by
  unfold look; rw [List.find?_cons]
  by_cases q : s.seq = x
  · rw [if_pos q, decide_eq_true q]
  · rw [if_neg q, decide_eq_false q]
theorem look_app (L M : List St) (x : Int) : look (L ++ M) x = (look L x).or (look M x) := by unfold look; rw [List.find?_append]
theorem look_seq {L : List St} {x : Int} {s : St} (h : look L x = some s) : s.seq = x := by
  have := List.find?_some h
  simpa using this
theorem look_mem {L : List St} {x : Int} {s : St} (h : look L x = some s) : s ∈ L := List.mem_of_find?_eq_some h
theorem look_on (L : List St) (x y z : Int) : look (setOn L x y) z = (look L z).map fun s => if z = x then { s with on := y } else s := by
  induction L with
  | nil => rfl
  | cons s L ih =>
    show look ((if s.seq = x then { s with on := y } else s) :: setOn L x y) z = _
    rw [look_cons, look_cons, ih]
    by_cases q : s.seq = z
    · have e : (if s.seq = x then { s with on := y } else s).seq = z := by split <;> exact q
      rw [if_pos e, if_pos q, Option.map_some]
      subst q; rfl
    · have e : (if s.seq = x then { s with on := y } else s).seq ≠ z := by split <;> exact q
      rw [if_neg e, if_neg q]
theorem setOn_len (L : List St) (x y : Int) : (setOn L x y).length = L.length := by simp [setOn]
theorem setOn_seq (L : List St) (x y : Int) : (setOn L x y).map St.seq = L.map St.seq := by
  simp only [setOn, List.map_map]
  refine List.map_congr_left fun s _ => ?_
  simp only [Function.comp]
  split <;> rfl
/-- States, the one that is, the next number, how many at most. -/
structure Tr where
  L : List St
  now : Int
  next : Int
  most : Int
/-- Pointers to the boxes. -/
def ptrs (L : List St) (q : Int → Nat) : Int → Option Value := fun x => (look L x).map fun _ => .pointer (some ⟨q x, 0, none⟩)
/-- Lines of one's own, in a block that has Q. -/
def RQ (Q : Nat → Prop) : Xl := fun v ls w => Row 0 v ls w ∧ ∀ k, v.ownBlock = some k → Q k
theorem okRQ (Q : Nat → Prop) (B : Nat) : Okx B (RQ Q) :=
  ⟨fun h => (okRow B 0).sl h.1, fun h k => ⟨(okRow B 0).kp h.1 k, h.2⟩, fun hB h hr hg => ⟨(okRow B 0).grow hB h.1 hr hg, h.2⟩⟩
theorem Dx.rq {Q : Nat → Prop} {C D : Nat} {v : Value} {ds : List Dl} {w : World} (h : Dx (Row C) D v ds w) (hq : ∀ k, C ≤ k → Q k) : Dx (RQ Q) 0 v ds w := by
  obtain ⟨cs, r1, r2⟩ := h
  exact ⟨cs, row_lift r1 fun _ _ => Nat.zero_le _, r2.imp fun _ _ q => ⟨row_lift q fun _ _ => Nat.zero_le _, fun k hk => hq k (q.lt k hk).1⟩⟩
theorem Dx.ffQ {Q : Nat → Prop} {T : Obj → Prop} {B D : Nat} {v : Value} {ds : List Dl} {w w1 : World} (h : Dx (RQ Q) D v ds w) (k : Ff T B w w1) (h1 : ∀ cur fr, ¬ T (.cells cur 89 fr)) (h2 : ∀ cur fr, ¬ T (.cells cur 9 fr)) : Dx (RQ Q) D v ds w1 := by
  obtain ⟨cs, r1, r2⟩ := h
  exact ⟨cs, row_ff r1 k h1, r2.imp fun _ _ q => ⟨row_ff q.1 k h2, q.2⟩⟩
/-- A state's box. -/
def Bx (Q : Nat → Prop) (B C p : Nat) (s : St) (w : World) : Prop := B ≤ p ∧ ∃ v, Lc 123 p [.int .i64 s.fr, .int .i64 s.on, v] w ∧ Dx (RQ Q) 0 v s.by_ w ∧ ∀ j, v.ownBlock = some j → j < C
/-- A tree, in memory: its box, its map, its states' boxes; where changes lie, C is beyond. -/
structure Tb (Q : Nat → Prop) (B C t b : Nat) (q : Int → Nat) (m : Tr) (w : World) : Prop where
  lt : B ≤ t
  lb : B ≤ b
  box : Lc 119 t [.map (some b), .int .i64 m.now, .int .i64 m.next, .int .i64 m.most] w
  map : Mp b (ptrs m.L q) w
  st : ∀ x s, look m.L x = some s → Bx Q B C (q x) s w
  inj : ∀ x y, look m.L x ≠ none → look m.L y ≠ none → q x = q y → x = y
def Tw (Q : Nat → Prop) (B C t : Nat) (m : Tr) (w : World) : Prop := ∃ b q, Tb Q B C t b q m w
section
variable {Q : Nat → Prop} {B C t b : Nat} {q : Int → Nat} {m : Tr} {w w1 : World}
theorem Bx.kp {p : Nat} {s : St} (h : Bx Q B C p s w) (k : Kp w w1) : Bx Q B C p s w1 := by
  obtain ⟨h1, v, h2, h3, h4⟩ := h
  exact ⟨h1, v, h2.kp k, h3.kp (okRQ _ 0) k, h4⟩
theorem Tb.kp (h : Tb Q B C t b q m w) (k : Kp w w1) : Tb Q B C t b q m w1 := ⟨h.lt, h.lb, h.box.kp k, h.map.kp k, fun x s hx => (h.st x s hx).kp k, h.inj⟩
theorem Tw.kp (h : Tw Q B C t m w) (k : Kp w w1) : Tw Q B C t m w1 := by obtain ⟨b, q, h⟩ := h; exact ⟨b, q, h.kp k⟩
theorem Bx.up {p C' : Nat} {s : St} (h : Bx Q B C p s w) (hC : C ≤ C') : Bx Q B C' p s w := by
  obtain ⟨h1, v, h2, h3, h4⟩ := h
  exact ⟨h1, v, h2, h3, fun j hj => Nat.lt_of_lt_of_le (h4 j hj) hC⟩
theorem Tw.up {C' : Nat} (h : Tw Q B C t m w) (hC : C ≤ C') : Tw Q B C' t m w := by
  obtain ⟨b, q, h⟩ := h
  exact ⟨b, q, h.lt, h.lb, h.box, h.map, fun x s hx => (h.st x s hx).up hC, h.inj⟩
theorem Bx.sized {p : Nat} {s : St} (h : Bx Q B C p s w) : Bx Q B w.heap.size p s w := by
  obtain ⟨h1, v, h2, ⟨cs, r1, r2⟩, h4⟩ := h
  exact ⟨h1, v, h2, ⟨cs, r1, r2⟩, fun j hj => (r1.lt j hj).2⟩
theorem Tw.sized (h : Tw Q B C t m w) : Tw Q B w.heap.size t m w := by
  obtain ⟨b, q, h⟩ := h
  exact ⟨b, q, h.lt, h.lb, h.box, h.map, fun x s hx => (h.st x s hx).sized, h.inj⟩
theorem Bx.fr {S : Nat → Prop} {p : Nat} {s : St} (h : Bx Q B C p s w) (k : Fr S w w1) (hp : ¬ S p) (hd : ∀ j cur fr, w.heap[j]? = some (.cells cur 89 fr) → ¬ S j) (hs : ∀ j cur fr, w.heap[j]? = some (.cells cur 9 fr) → ¬ S j) : Bx Q B C p s w1 := by
  obtain ⟨h1, v, h2, ⟨cs, r1, r2⟩, h4⟩ := h
  refine ⟨h1, v, h2.fr k hp, ⟨cs, row_fr r1 k fun j hj => ?_, r2.imp fun u ls r => ⟨row_fr r.1 k fun j hj => ?_, r.2⟩⟩, h4⟩
  · rcases r1.2 with ⟨z, _⟩ | ⟨g, cap, cur, z, hb, hg, _⟩
    · rw [z] at hj; cases hj
    · rw [z] at hj; simp only [Value.ownBlock, Option.some.injEq] at hj; subst hj; exact hd _ _ _ hg
  · rcases r.1.2 with ⟨z, _⟩ | ⟨g, cap, cur, z, hb, hg, _⟩
    · rw [z] at hj; cases hj
    · rw [z] at hj; simp only [Value.ownBlock, Option.some.injEq] at hj; subst hj; exact hs _ _ _ hg
theorem on_ne {p j : Nat} {o o' : Obj} (hp : w.heap[p]? = some o) (hj : w.heap[j]? = some o') (hne : o ≠ o') : ¬ On p j := fun e => by unfold On at e; subst e; rw [hp] at hj; cases hj; exact hne rfl
theorem cells_ne {a b : Array Value} {e e' : TypeId} {f f' : Nat × Nat} (h : e ≠ e') : Obj.cells a e f ≠ Obj.cells b e' f' := fun q => by cases q; exact h rfl
theorem Bx.on {p r : Nat} {s : St} {e : TypeId} {l : List Value} (h : Bx Q B C p s w) (k : Fr (On r) w w1) (hr : Lc e r l w) (hp : p ≠ r) (h1 : e ≠ 89) (h2 : e ≠ 9) : Bx Q B C p s w1 :=
  h.fr k hp (fun j cur fr hj => on_ne hr hj (cells_ne h1)) (fun j cur fr hj => on_ne hr hj (cells_ne h2))
theorem Bx.onMap {p r : Nat} {s : St} {es : Array MapEntry} {c : Nat} (h : Bx Q B C p s w) (k : Fr (On r) w w1) (hr : w.heap[r]? = some (.map es c)) : Bx Q B C p s w1 := by
  refine h.fr k ?_ (fun j cur fr hj => on_ne hr hj (by simp)) (fun j cur fr hj => on_ne hr hj (by simp))
  obtain ⟨_, v, h2, _⟩ := h
  exact on_ne hr h2 (by simp)
/-- Another one is the one that is. -/
theorem Tb.now (h : Tb Q B C t b q m w) (x : Int) : Tb Q B C t b q { m with now := x } (w.setCell ⟨t, 1, none⟩ (.int .i64 x)) ∧ Ff TP B w (w.setCell ⟨t, 1, none⟩ (.int .i64 x)) := by
  have f := fr_set t 1 (.int .i64 x) w
  have hne := h.map.ne h.box
  refine ⟨⟨h.lt, h.lb, h.box.set 1 _, h.map.fr f (Ne.symm hne), fun y s hy => (h.st y s hy).on f h.box ?_ (by decide) (by decide), h.inj⟩, Ff.on f h.lt h.box (.inl rfl)⟩
  obtain ⟨_, v, h2, _⟩ := h.st y s hy
  exact lc_ne h2 h.box (by decide)
theorem Tb.nxt (h : Tb Q B C t b q m w) (x : Int) : Tb Q B C t b q { m with next := x } (w.setCell ⟨t, 2, none⟩ (.int .i64 x)) ∧ Ff TP B w (w.setCell ⟨t, 2, none⟩ (.int .i64 x)) := by
  have f := fr_set t 2 (.int .i64 x) w
  have hne := h.map.ne h.box
  refine ⟨⟨h.lt, h.lb, h.box.set 2 _, h.map.fr f (Ne.symm hne), fun y s hy => (h.st y s hy).on f h.box ?_ (by decide) (by decide), h.inj⟩, Ff.on f h.lt h.box (.inl rfl)⟩
  obtain ⟨_, v, h2, _⟩ := h.st y s hy
  exact lc_ne h2 h.box (by decide)
theorem ptrs_on (L : List St) (x y : Int) (q : Int → Nat) : ptrs (setOn L x y) q = ptrs L q := by
  funext z; unfold ptrs; rw [look_on]; cases look L z <;> rfl
theorem look_on_ne (L : List St) (x y z : Int) : look (setOn L x y) z ≠ none ↔ look L z ≠ none := by rw [look_on]; cases look L z <;> simp
/-- A way on is laid. -/
theorem Tb.on (h : Tb Q B C t b q m w) {x : Int} (hx : look m.L x ≠ none) (y : Int) : Tb Q B C t b q { m with L := setOn m.L x y } (w.setCell ⟨q x, 1, none⟩ (.int .i64 y)) ∧ Ff TP B w (w.setCell ⟨q x, 1, none⟩ (.int .i64 y)) := by
  obtain ⟨s, hs⟩ := Option.ne_none_iff_exists'.1 hx
  obtain ⟨hp, v, h2, h3, h4⟩ := h.st x s hs
  have f := fr_set (q x) 1 (.int .i64 y) w
  have hne : b ≠ q x := Ne.symm (h.map.ne h2)
  have ht : t ≠ q x := lc_ne h.box h2 (by decide)
  refine ⟨⟨h.lt, h.lb, h.box.fr f ht, by show Mp b (ptrs (setOn m.L x y) q) _; rw [ptrs_on]; exact h.map.fr f hne, fun z s' hz => ?_, fun a c h1 h2 h3 => h.inj a c ((look_on_ne _ _ _ _).1 h1) ((look_on_ne _ _ _ _).1 h2) h3⟩, Ff.on f hp h2 (.inr rfl)⟩
  rw [look_on] at hz
  obtain ⟨s0, hs0, rfl⟩ := Option.map_eq_some_iff.1 hz
  by_cases e : z = x
  · subst e
    rw [if_pos rfl]
    rw [hs] at hs0; cases hs0
    refine ⟨hp, v, h2.set 1 _, ?_, h4⟩
    exact h3.ffQ (Ff.on (T := TP) f hp h2 (.inr rfl)) (fun _ _ q => by rcases q with q | q <;> exact absurd q (by decide)) (fun _ _ q => by rcases q with q | q <;> exact absurd q (by decide))
  · rw [if_neg e]
    exact (h.st z s0 hs0).on f h2 (fun e2 => e (h.inj z x (by rw [hs0]; simp) hx e2)) (by decide) (by decide)
/-- Changes that lie from C on have more behind them. -/
theorem Tw.app (h : Tw Q B C t m w) {v : Value} {n : Nat} {xs : List Value} (hr : w.ownsRow C 89 3 v n xs) (hg : w.grownBy w1 v.ownBlock) : Tw Q B C t m w1 := by
  obtain ⟨b, q, h⟩ := h
  have f := fr_grown hg
  have typ : ∀ k, some k = v.ownBlock → C ≤ k ∧ ∃ cur, w.heap[k]? = some (.cells cur 89 (0, 0)) := fun k e => by
    rcases hr.2 with ⟨z, _⟩ | ⟨g, cap, cur, z, hb, hg, _⟩
    · rw [z] at e; cases e
    · rw [z] at e; simp only [Value.ownBlock, Option.some.injEq] at e; subst e; exact ⟨hb, cur, hg⟩
  have lc : ∀ {T : TypeId} {p : Nat} {l : List Value}, Lc T p l w → T ≠ 89 → Lc T p l w1 := fun hl hT => hl.fr f fun e => by
    obtain ⟨_, cur, q⟩ := typ _ e
    unfold Lc at hl; rw [hl] at q; cases q; exact hT rfl
  refine ⟨b, q, h.lt, h.lb, lc h.box (by decide), h.map.fr f fun e => ?_, fun x s hx => ?_, h.inj⟩
  · obtain ⟨_, cur, q⟩ := typ _ e
    obtain ⟨es, c, hm, _⟩ := h.map
    rw [hm] at q; cases q
  · obtain ⟨h1, u, h2, ⟨cs, r1, r2⟩, h4⟩ := h.st x s hx
    refine ⟨h1, u, lc h2 (by decide), ⟨cs, row_fr r1 f fun j hj e => ?_, r2.imp fun u' ls r => ⟨row_fr r.1 f fun j hj e => ?_, r.2⟩⟩, h4⟩
    · have := h4 j hj; have := (typ j e).1; omega
    · obtain ⟨_, cur, q⟩ := typ j e
      rcases r.1.2 with ⟨z, _⟩ | ⟨g, cap, cur', z, hb, hg, _⟩
      · rw [z] at hj; cases hj
      · rw [z] at hj; simp only [Value.ownBlock, Option.some.injEq] at hj; subst hj
        rw [hg] at q; cases q
theorem Mp.key {b : Nat} {f : Int → Option Value} {w : World} (h : Mp b f w) {x : Int} {v : Value} (hx : f x = some v) {es : Array MapEntry} {c : Nat} (hb : w.heap[b]? = some (.map es c)) : TP (.map es c) := by
  obtain ⟨es', c', h1, _, H⟩ := h
  rw [hb] at h1; cases h1
  obtain ⟨e, he, hk, _⟩ := H.at_ x v hx
  obtain ⟨y, hy, _⟩ := H.on e he
  exact ⟨e, he, y, hy⟩
theorem Tb.key (h : Tb Q B C t b q m w) {x : Int} (hx : look m.L x ≠ none) {es : Array MapEntry} {c : Nat} (hb : w.heap[b]? = some (.map es c)) : TP (.map es c) := by
  obtain ⟨s, hs⟩ := Option.ne_none_iff_exists'.1 hx
  exact h.map.key (x := x) (v := .pointer (some ⟨q x, 0, none⟩)) (by unfold ptrs; rw [hs]; rfl) hb
theorem zeroP (w : World) : (zeroValue 124).run Tryz.prog w = .ok (.pointer none) w := by kernel_rfl
/-- A state that is looked up. -/
theorem Tb.get (h : Tb Q B C t b q m w) {x : Int} (h0 : -9223372036854775808 ≤ x) (h1 : x < 9223372036854775808) {s : St} (hs : look m.L x = some s) (z : World) (k : Kp w z) :
    (Instr.lookup 117 (.map (some b)) (.int .i64 x) false).run Tryz.prog z = .ok (.pointer (some ⟨q x, 0, none⟩)) z := by
  have := (h.map.kp k).look h0 h1 Tryz.underlying117 (zeroP z) false
  unfold ptrs at this
  rw [hs] at this
  exact this
theorem Tb.getn (h : Tb Q B C t b q m w) {x : Int} (h0 : -9223372036854775808 ≤ x) (h1 : x < 9223372036854775808) (hs : look m.L x = none) (z : World) (k : Kp w z) :
    (Instr.lookup 117 (.map (some b)) (.int .i64 x) false).run Tryz.prog z = .ok (.pointer none) z := by
  have := (h.map.kp k).look h0 h1 Tryz.underlying117 (zeroP z) false
  unfold ptrs at this
  rw [hs] at this
  exact this
end
end Go.Proofs.YtaefeakmlgjonaaGreat
/- undo.New, Now, up, down, Undo, Redo. -/
namespace Go.Proofs.YtaefeakmlgjonaaGreat
open Go.ChangeShapes Go.WideShapes Go.ChangeAt Go.RowKit Go.Maps Go.MapKept
set_option linter.unusedVariables false
set_option linter.unusedSimpArgs false
set_option maxRecDepth 100000
/-- A number that an int has. -/
def Rg (x : Int) : Prop := -9223372036854775808 ≤ x ∧ x < 9223372036854775808
def first (most : Int) : Tr := ⟨[⟨0, -1, -1, []⟩], 0, 1, most⟩
section
variable {Q : Nat → Prop} {B C t : Nat} {m : Tr} {w : World}
set_option maxHeartbeats 4000000 in
theorem new_none {most : Int} (h : most < 1 ∨ 200 < most) (w : World) : Calls Tryz.prog 40 #[.int .i64 most] w fun e w' => e = .returned (.pointer none) ∧ w' = w := by
  by_cases q : most < 1
  · have d1 : decide (most < 1) = true := decide_eq_true q
    go_enter Tryz.func40, Tryz.ntmps40
    go_wp2
    go_ret
    exact ⟨rfl, rfl⟩
  · have d1 : decide (most < 1) = false := decide_eq_false q
    have d2 : decide (most > 200) = true := decide_eq_true (by omega)
    have d3 : decide (200 < most) = true := decide_eq_true (by omega)
    go_enter Tryz.func40, Tryz.ntmps40
    go_wp2
    go_ret
    exact ⟨rfl, rfl⟩
set_option maxHeartbeats 4000000 in
theorem new_any {most : Int} (h1 : 1 ≤ most) (h2 : most ≤ 200) (w : World) : Calls Tryz.prog 40 #[.int .i64 most] w fun e w' => ∃ t, e = .returned (.pointer (some ⟨t, 0, none⟩)) ∧ Tw Q w.heap.size w.heap.size t (first most) w' ∧ Kp w w' := by
  have d1 : decide (most < 1) = false := decide_eq_false (by omega)
  have d2 : decide (most > 200) = false := decide_eq_false (by omega)
  have d3 : decide (200 < most) = false := decide_eq_false (by omega)
  have hmm := @run_makeMap Tryz.prog
  obtain ⟨W0, hW0⟩ : ∃ W0, (w.alloc (.cells #[.int .i64 (-1), .int .i64 (-1), .slice none 0 0] 123)).alloc (.map #[] 0) = W0 := ⟨_, rfl⟩
  have k0 : Kp w W0 := by rw [← hW0]; exact kp_more (kp_alloc _ _) _
  have hz : W0.heap.size = w.heap.size + 1 + 1 := by rw [← hW0, alloc_size, alloc_size]
  have b0 : Lc 123 w.heap.size [.int .i64 (-1), .int .i64 (-1), .slice none 0 0] W0 := by rw [← hW0]; exact (Lc.new w _ _).kp (kp_alloc _ _)
  have m0 : Mp (w.heap.size + 1) (fun _ => none) W0 := ⟨#[], 0, by rw [← hW0]; simpa [alloc_size] using alloc_new (w.alloc (.cells #[.int .i64 (-1), .int .i64 (-1), .slice none 0 0] 123)) (.map #[] 0), stamped_empty 0, ⟨by simp, by simp⟩⟩
  obtain ⟨w', hr, hm, hf, hs⟩ := m0.store (x := 0) (by omega) (by omega) Tryz.underlying117 (.pointer (some ⟨w.heap.size, 0, none⟩))
  rw [← hW0] at hr
  have HP : Hid (∀ l, l = [.map (some (w.heap.size + 1)), .int .i64 0, .int .i64 1, .int .i64 most] → Tw Q w.heap.size w.heap.size (w.heap.size + 1 + 1) (first most) (w'.alloc (.cells l.toArray 119)) ∧ Kp w (w'.alloc (.cells l.toArray 119))) := by
    rintro l rfl
    have k1 : Kp w w' := k0.trans (hf.below k0.size fun k hk e => by unfold On at e; omega)
    refine ⟨⟨w.heap.size + 1, fun _ => w.heap.size, by omega, by omega, ?_, ?_, ?_, ?_⟩, kp_more k1 _⟩
    · have := Lc.new w' [.map (some (w.heap.size + 1)), .int .i64 0, .int .i64 1, .int .i64 most] 119
      rw [hs, hz] at this; exact this
    · refine Mp.kp ?_ (kp_alloc _ _)
      have e : ptrs (first most).L (fun _ => w.heap.size) = upd (fun _ => none) 0 (some (.pointer (some ⟨w.heap.size, 0, none⟩))) := by
        funext z; unfold ptrs first upd; rw [look_cons]
        by_cases q : z = 0
        · subst q; rfl
        · rw [if_neg (fun e => q e.symm), if_neg q]; rfl
      rw [e]; exact hm
    · intro x s hx
      refine Bx.kp (w := w') ⟨Nat.le_refl _, .slice none 0 0, ?_, ?_, fun j hj => by cases hj⟩ (kp_alloc _ _)
      · unfold first at hx; rw [look_cons] at hx
        split at hx
        · cases hx; exact b0.fr hf (by unfold On; omega)
        · cases hx
      · unfold first at hx; rw [look_cons] at hx
        split at hx
        · cases hx; exact Dx.nil _ _ _
        · cases hx
    · intro x y hx hy _
      have e : ∀ x, look (first most).L x ≠ none → x = 0 := fun x hx => by
        unfold first at hx; rw [look_cons] at hx
        split at hx
        · rename_i e; exact e.symm
        · exact absurd rfl hx
      rw [e x hx, e y hy]
  rw [hz] at hs
  clear k0 hz b0 m0 hm hf hW0
  go_enter Tryz.func40, Tryz.ntmps40
  go_wp2_with fail
  go_ret
  exact ⟨_, rfl, HP.out _ rfl⟩
set_option maxHeartbeats 4000000 in
theorem now_any (h : Tw Q B C t m w) : Calls Tryz.prog 36 #[.pointer (some ⟨t, 0, none⟩)] w fun e w' => e = .returned (.int .i64 m.now) ∧ w' = w := by
  obtain ⟨b, q, h⟩ := h
  have c1 := h.box.at (j := 1) rfl
  clear h
  go_enter Tryz.func36, Tryz.ntmps36
  go_wp2
  go_ret
  exact ⟨rfl, rfl⟩
theorem tp_delta (cur : Array Value) (fr : Nat × Nat) : ¬ TP (.cells cur 89 fr) := fun q => by rcases q with q | q <;> exact absurd q (by decide)
theorem tp_str (cur : Array Value) (fr : Nat × Nat) : ¬ TP (.cells cur 9 fr) := fun q => by rcases q with q | q <;> exact absurd q (by decide)
/-- What a call that goes somewhere leaves: changes of its own, the tree, the rest. -/
def Gone (Q : Nat → Prop) (B C t : Nat) (w : World) (v : Value) (ds : List Dl) (m : Tr) (w' : World) : Prop := Dw w.heap.size v ds w' ∧ Tw Q B C t m w' ∧ Ff TP B w w'
set_option maxHeartbeats 4000000 in
theorem up_any (h : Tw Q B C t m w) (hr : Rg m.now) {s : St} (hs : look m.L m.now = some s) {N : Nat} (hf : Few N s.by_) (hN : N ≤ 2513169434916) :
    Calls Tryz.prog 92 #[.pointer (some ⟨t, 0, none⟩)] w fun e w' => ∃ v, e = .returned v ∧ Gone Q B C t w v (turnD s.by_) { m with now := s.fr } w' := by
  obtain ⟨b, q, h⟩ := h
  have c0 := h.box.at (j := 0) rfl
  have c1 := h.box.at (j := 1) rfl
  have hlk := h.get hr.1 hr.2 hs
  have hl1 := fun k => hlk (w.drewN k) (kp_drewN _ k)
  obtain ⟨hp, v, h2, h3, _⟩ := h.st _ _ hs
  have p0 := h2.at (j := 0) rfl
  have p2 := h2.at (j := 2) rfl
  have f1 := h.box.fz 1
  have hne : q m.now ≠ t := lc_ne h2 h.box (by decide)
  have HT : Hid (∀ k, Calls Tryz.prog 74 #[v] ((w.drewN k).setCell ⟨t, 1, none⟩ (.int .i64 s.fr)) fun e w' => ∃ v', e = .returned v' ∧ Gone Q B C t w v' (turnD s.by_) { m with now := s.fr } w') := fun k => by
    obtain ⟨r1, r2⟩ := (h.kp (kp_drewN w k)).now s.fr
    have f0 : Ff TP B w ((w.drewN k).setCell ⟨t, 1, none⟩ (.int .i64 s.fr)) := (Ff.kp (kp_drewN _ _)).trans r2
    have d0 := h3.ffQ f0 tp_delta tp_str
    refine (turn_any (okRQ Q 0) d0.dr hf hN).mono ?_
    rintro e w' ⟨v', rfl, q1, q2⟩
    exact ⟨v', rfl, q1.lower f0.size f0.size, ⟨b, q, r1.kp q2⟩, f0.trans (Ff.kp q2)⟩
  clear hlk h h2 h3 hp
  go_enter Tryz.func92, Tryz.ntmps92
  go_wp2_with fail
  go_quiet (fail)
  go_wp2_with fail
  refine Calls.mono (HT.out _) ?_
  rintro e w4 ⟨v', rfl, H4⟩
  have H5 : Hid _ := H4
  clear H4 HT
  go_wp2_with fail
  go_ret
  exact ⟨_, rfl, H5.out⟩
set_option maxHeartbeats 4000000 in
theorem down_any (h : Tw Q B C t m w) (hr : Rg m.now) {s s' : St} (hs : look m.L m.now = some s) (hr' : Rg s.on) (hs' : look m.L s.on = some s') {N : Nat} (hf : Few N s'.by_) (hN : N ≤ 2513169434916) :
    Calls Tryz.prog 96 #[.pointer (some ⟨t, 0, none⟩)] w fun e w' => ∃ v, e = .returned v ∧ Gone Q B C t w v s'.by_ { m with now := s.on } w' := by
  obtain ⟨b, q, h⟩ := h
  have c0 := h.box.at (j := 0) rfl
  have c1 := h.box.at (j := 1) rfl
  have f1 := h.box.fz 1
  have hlk := h.get hr.1 hr.2 hs
  have hl1 := hlk w (Below.refl _ _)
  have hl2 := hlk w.drew (kp_drew _)
  obtain ⟨hp, v, h2, h3, _⟩ := h.st _ _ hs
  have p1 := h2.at (j := 1) rfl
  obtain ⟨W1, hW1⟩ : ∃ W1, (w.setCell ⟨t, 1, none⟩ (.int .i64 s.on)).drew = W1 := ⟨_, rfl⟩
  obtain ⟨r1, r2⟩ := h.now s.on
  have r3 : Tb Q B C t b q { m with now := s.on } W1 := by rw [← hW1]; exact r1.kp (kp_drew _)
  have f0 : Ff TP B w W1 := by rw [← hW1]; exact r2.trans (Ff.kp (kp_drew _))
  obtain ⟨hp', v', h2', h3', _⟩ := r3.st _ _ hs'
  have z0 := r3.box.at (j := 0) rfl
  have z1 := r3.box.at (j := 1) rfl
  have z2 := h2'.at (j := 2) rfl
  have z3 := r3.get hr'.1 hr'.2 hs' W1 (Below.refl _ _)
  have z4 := r3.get hr'.1 hr'.2 hs' W1.drew (kp_drew _)
  have HT : Hid (∀ z, Kp W1 z → Calls Tryz.prog 90 #[v'] z fun e w' => ∃ v'', e = .returned v'' ∧ Gone Q B C t w v'' s'.by_ { m with now := s.on } w' ∧ Kp W1 w') := fun z k => by
    refine (copies_any (okRQ Q 0) (h3'.kp (okRQ Q 0) k).dr hf hN).mono ?_
    rintro e w' ⟨v'', rfl, q1, q2⟩
    have hz : w.heap.size ≤ z.heap.size := Nat.le_trans f0.size k.size
    exact ⟨v'', rfl, ⟨q1.lower hz hz, ⟨b, q, r3.kp (kp_trans k q2)⟩, f0.trans (Ff.kp (kp_trans k q2))⟩, kp_trans k q2⟩
  have HW : Hid (_ = W1) := hW1
  have HG : Hid (Tb Q B C t b q { m with now := s.on } W1 ∧ look m.L s.on = some s' ∧ Rg s.on) := ⟨r3, hs', hr'⟩
  clear hlk h h2 h3 h2' h3' hp hp' r1 r2 r3 f0 hW1
  go_enter Tryz.func96, Tryz.ntmps96
  go_wp2_with fail
  go_region
  rw [HW.out]
  go_wp2_with fail
  refine wp_region_noPanic ?_
  refine wp_region_held_drew (S := fun z => z.cell? ⟨t, 0, none⟩ = some (.map (some b)) ∧ z.cell? ⟨t, 1, none⟩ = some (.int .i64 s.on) ∧ z.cell? ⟨q s.on, 2, none⟩ = some v' ∧ (Instr.lookup 117 (.map (some b)) (.int .i64 s.on) false).run Tryz.prog z = .ok (.pointer (some ⟨q s.on, 0, none⟩)) z) (by kernel_rfl) (⟨z0, z1, z2, z4⟩) (fun hHeld => ?_)
  refine takeAt 0 (some 18) ?_ rfl rfl (by kernel_rfl) (by kernel_rfl) (by kernel_rfl) (fun _ _ _ h => h) (Or.inl ⟨by rfl, ?_⟩) hHeld ?_
  rotate_left
  · intro w hSw
    go_simp <;> with_reducible rfl
  try simp only [Act.put, List.setIfInBounds_toArray, List.set_cons_zero, List.set_cons_succ]
  refine takeAt 1 (some 19) ?_ rfl rfl (by kernel_rfl) (by kernel_rfl) (by kernel_rfl) (fun _ _ _ h => h) (Or.inl ⟨by rfl, ?_⟩) hHeld ?_
  rotate_left
  · intro w hSw
    go_simp <;> with_reducible rfl
  try simp only [Act.put, List.setIfInBounds_toArray, List.set_cons_zero, List.set_cons_succ]
  refine takeAt 2 (some 20) ?_ rfl rfl (by kernel_rfl) (by kernel_rfl) (by kernel_rfl) (fun _ _ _ h => h) (Or.inl ⟨by rfl, ?_⟩) hHeld ?_
  rotate_left
  · intro w hSw
    go_simp <;> with_reducible rfl
  try simp only [Act.put, List.setIfInBounds_toArray, List.set_cons_zero, List.set_cons_succ]
  refine takeAt 3 (some 21) ?_ rfl rfl (by kernel_rfl) (by kernel_rfl) (by kernel_rfl) (fun _ _ _ h => h) (Or.inl ⟨by rfl, ?_⟩) hHeld ?_
  rotate_left
  · intro w hSw
    go_simp <;> with_reducible rfl
  try simp only [Act.put, List.setIfInBounds_toArray, List.set_cons_zero, List.set_cons_succ]
  refine takeAt 4 (some 22) ?_ rfl rfl (by kernel_rfl) (by kernel_rfl) (by kernel_rfl) (fun _ _ _ h => h) (Or.inl ⟨by rfl, ?_⟩) hHeld ?_
  rotate_left
  · intro w hSw
    go_simp <;> with_reducible rfl
  try simp only [Act.put, List.setIfInBounds_toArray, List.set_cons_zero, List.set_cons_succ]
  refine takeAt 5 (some 23) ?_ rfl rfl (by kernel_rfl) (by kernel_rfl) (by kernel_rfl) (fun _ _ _ h => h) (Or.inl ⟨by rfl, ?_⟩) hHeld ?_
  rotate_left
  · intro w hSw
    go_simp <;> with_reducible rfl
  try simp only [Act.put, List.setIfInBounds_toArray, List.set_cons_zero, List.set_cons_succ]
  refine takeAt 6 (some 24) ?_ rfl rfl (by kernel_rfl) (by kernel_rfl) (by kernel_rfl) (fun _ _ _ h => h) (Or.inl ⟨by rfl, ?_⟩) hHeld ?_
  rotate_left
  · intro w hSw
    go_simp <;> with_reducible rfl
  try simp only [Act.put, List.setIfInBounds_toArray, List.set_cons_zero, List.set_cons_succ]
  refine takeAt 7 (some 25) ?_ rfl rfl (by kernel_rfl) (by kernel_rfl) (by kernel_rfl) (fun _ _ _ h => h) (Or.inl ⟨by rfl, ?_⟩) hHeld ?_
  rotate_left
  · intro w hSw
    go_simp <;> with_reducible rfl
  try simp only [Act.put, List.setIfInBounds_toArray, List.set_cons_zero, List.set_cons_succ]
  refine takeAt 8 (some 26) ?_ rfl rfl (by kernel_rfl) (by kernel_rfl) (by kernel_rfl) (fun _ _ _ h => h) (Or.inl ⟨by rfl, ?_⟩) hHeld ?_
  rotate_left
  · intro w hSw
    go_simp <;> with_reducible rfl
  try simp only [Act.put, List.setIfInBounds_toArray, List.set_cons_zero, List.set_cons_succ]
  refine takeAt 9 (some 27) ?_ rfl rfl (by kernel_rfl) (by kernel_rfl) (by kernel_rfl) (fun _ _ _ h => h) (Or.inl ⟨by rfl, ?_⟩) hHeld ?_
  rotate_left
  · intro w hSw
    go_simp <;> with_reducible rfl
  try simp only [Act.put, List.setIfInBounds_toArray, List.set_cons_zero, List.set_cons_succ]
  refine takeAt 10 (some 28) ?_ rfl rfl (by kernel_rfl) (by kernel_rfl) (by kernel_rfl) (fun _ _ _ h => h) (Or.inl ⟨by rfl, ?_⟩) hHeld ?_
  rotate_left
  · intro w hSw
    go_simp <;> with_reducible rfl
  try simp only [Act.put, List.setIfInBounds_toArray, List.set_cons_zero, List.set_cons_succ]
  refine takeAt 11 (some 29) ?_ rfl rfl (by kernel_rfl) (by kernel_rfl) (by kernel_rfl) (fun _ _ _ h => h) (Or.inl ⟨by rfl, ?_⟩) hHeld ?_
  rotate_left
  · intro w hSw
    go_simp <;> with_reducible rfl
  try simp only [Act.put, List.setIfInBounds_toArray, List.set_cons_zero, List.set_cons_succ]
  refine callAt 12 30 90 (vals := #[v']) (by kernel_rfl) rfl rfl rfl rfl (by simp [Act.eval]) Tryz.func90 (by kernel_rfl) (by kernel_rfl) ?_
  refine Calls.mono (HT.out _ (by first | exact Below.refl _ _ | exact kp_drew _)) ?_
  rintro e w4 ⟨v4, rfl, H4, k4⟩
  have H5 : Hid _ := H4
  clear H4
  refine ⟨_, rfl, ⟨kp_cell k4 z0, kp_cell k4 z1, kp_cell k4 z2, HG.out.1.get HG.out.2.2.1 HG.out.2.2.2 HG.out.2.1 _ k4⟩, fun hHeld => ?_⟩
  try simp only [Act.put, List.setIfInBounds_toArray, List.set_cons_zero, List.set_cons_succ]
  refine wpAnyH_ready (rs := [13]) (by kernel_rfl) (by simp) ?_
  refine AllReadyH.cons rfl (fun K hK => ?_) AllReadyH.nil
  go_simp
  refine hK.out _ _ (hHeld) (fun hHeld => ?_)
  clear hK K
  try simp only [Act.put, List.setIfInBounds_toArray, List.set_cons_zero, List.set_cons_succ]
  refine wpAnyH_done (by kernel_rfl) ?_ _
  refine NoPanic.normal ?_
  go_wp2_with fail
  go_ret
  exact ⟨_, rfl, H5.out⟩
set_option maxHeartbeats 4000000 in
theorem undo_end (h : Tw Q B C t m w) (hr : Rg m.now) {s : St} (hs : look m.L m.now = some s) (he : s.fr = -1) :
    Calls Tryz.prog 51 #[.pointer (some ⟨t, 0, none⟩)] w fun e w' => e = .returned (.tuple #[.slice none 0 0, .int .u16 121]) ∧ ∃ k, w' = w.drewN k := by
  obtain ⟨b, q, h⟩ := h
  have c0 := h.box.at (j := 0) rfl
  have c1 := h.box.at (j := 1) rfl
  have hlk := h.get hr.1 hr.2 hs
  have hl1 := fun k => hlk (w.drewN k) (kp_drewN _ k)
  obtain ⟨hp, v, h2, h3, _⟩ := h.st _ _ hs
  have p0 := h2.at (j := 0) rfl
  rw [he] at p0
  clear hlk h h2 h3 hp
  go_enter Tryz.func51, Tryz.ntmps51
  go_wp2_with fail
  go_quiet (fail)
  go_wp2_with fail
  go_ret2
  exact ⟨rfl, _, rfl⟩
set_option maxHeartbeats 4000000 in
theorem undo_any (h : Tw Q B C t m w) (hr : Rg m.now) {s : St} (hs : look m.L m.now = some s) (he : s.fr ≠ -1) {N : Nat} (hf : Few N s.by_) (hN : N ≤ 2513169434916) :
    Calls Tryz.prog 51 #[.pointer (some ⟨t, 0, none⟩)] w fun e w' => ∃ v, e = .returned (.tuple #[v, .int .u16 0]) ∧ Gone Q B C t w v (turnD s.by_) { m with now := s.fr } w' := by
  have HC : Hid (∀ k, Calls Tryz.prog 92 #[.pointer (some ⟨t, 0, none⟩)] (w.drewN k) fun e w' => ∃ v, e = .returned v ∧ Gone Q B C t w v (turnD s.by_) { m with now := s.fr } w') := fun k => by
    refine (up_any (h.kp (kp_drewN _ k)) hr hs hf hN).mono ?_
    rintro e w' ⟨v, rfl, g1, g2, g3⟩
    refine ⟨v, rfl, ?_, g2, (Ff.kp (kp_drewN _ _)).trans g3⟩
    rw [drewN_heap] at g1; exact g1
  obtain ⟨b, q, h⟩ := h
  have c0 := h.box.at (j := 0) rfl
  have c1 := h.box.at (j := 1) rfl
  have hlk := h.get hr.1 hr.2 hs
  have hl1 := fun k => hlk (w.drewN k) (kp_drewN _ k)
  obtain ⟨hp, v, h2, h3, _⟩ := h.st _ _ hs
  have p0 := h2.at (j := 0) rfl
  have d1 : (s.fr == -1) = false := by simpa using he
  clear hlk h h2 h3 hp
  go_enter Tryz.func51, Tryz.ntmps51
  go_wp2_with fail
  go_quiet (fail)
  go_wp2_with fail
  refine Calls.mono (HC.out _) ?_
  rintro e w4 ⟨v', rfl, H4⟩
  have H5 : Hid _ := H4
  clear H4 HC
  go_wp2_with fail
  go_ret2
  exact ⟨_, rfl, H5.out⟩
set_option maxHeartbeats 4000000 in
theorem redo_end (h : Tw Q B C t m w) (hr : Rg m.now) {s : St} (hs : look m.L m.now = some s) (he : s.on = -1) :
    Calls Tryz.prog 54 #[.pointer (some ⟨t, 0, none⟩)] w fun e w' => e = .returned (.tuple #[.slice none 0 0, .int .u16 121]) ∧ ∃ k, w' = w.drewN k := by
  obtain ⟨b, q, h⟩ := h
  have c0 := h.box.at (j := 0) rfl
  have c1 := h.box.at (j := 1) rfl
  have hlk := h.get hr.1 hr.2 hs
  have hl1 := fun k => hlk (w.drewN k) (kp_drewN _ k)
  obtain ⟨hp, v, h2, h3, _⟩ := h.st _ _ hs
  have p0 := h2.at (j := 1) rfl
  rw [he] at p0
  clear hlk h h2 h3 hp
  go_enter Tryz.func54, Tryz.ntmps54
  go_wp2_with fail
  go_quiet (fail)
  go_wp2_with fail
  go_ret2
  exact ⟨rfl, _, rfl⟩
set_option maxHeartbeats 4000000 in
theorem redo_any (h : Tw Q B C t m w) (hr : Rg m.now) {s : St} (hs : look m.L m.now = some s) (he : s.on ≠ -1) (hr' : Rg s.on) {s' : St} (hs' : look m.L s.on = some s') {N : Nat} (hf : Few N s'.by_) (hN : N ≤ 2513169434916) :
    Calls Tryz.prog 54 #[.pointer (some ⟨t, 0, none⟩)] w fun e w' => ∃ v, e = .returned (.tuple #[v, .int .u16 0]) ∧ Gone Q B C t w v (s'.by_) { m with now := s.on } w' := by
  have HC : Hid (∀ k, Calls Tryz.prog 96 #[.pointer (some ⟨t, 0, none⟩)] (w.drewN k) fun e w' => ∃ v, e = .returned v ∧ Gone Q B C t w v (s'.by_) { m with now := s.on } w') := fun k => by
    refine (down_any (h.kp (kp_drewN _ k)) hr hs hr' hs' hf hN).mono ?_
    rintro e w' ⟨v, rfl, g1, g2, g3⟩
    refine ⟨v, rfl, ?_, g2, (Ff.kp (kp_drewN _ _)).trans g3⟩
    rw [drewN_heap] at g1; exact g1
  obtain ⟨b, q, h⟩ := h
  have c0 := h.box.at (j := 0) rfl
  have c1 := h.box.at (j := 1) rfl
  have hlk := h.get hr.1 hr.2 hs
  have hl1 := fun k => hlk (w.drewN k) (kp_drewN _ k)
  obtain ⟨hp, v, h2, h3, _⟩ := h.st _ _ hs
  have p0 := h2.at (j := 1) rfl
  have d1 : (s.on == -1) = false := by simpa using he
  clear hlk h h2 h3 hp
  go_enter Tryz.func54, Tryz.ntmps54
  go_wp2_with fail
  go_quiet (fail)
  go_wp2_with fail
  refine Calls.mono (HC.out _) ?_
  rintro e w4 ⟨v', rfl, H4⟩
  have H5 : Hid _ := H4
  clear H4 HC
  go_wp2_with fail
  go_ret2
  exact ⟨_, rfl, H5.out⟩
end
end Go.Proofs.YtaefeakmlgjonaaGreat
/- Ways in a tree of states: pure. -/
namespace Go.Proofs.YtaefeakmlgjonaaGreat
open Go.ChangeShapes Go.WideShapes Go.ChangeAt Go.RowKit Go.Maps Go.MapKept
set_option linter.unusedVariables false
set_option linter.unusedSimpArgs false
/-- The way up from x to y: all states on it, y not among them. -/
inductive Up (L : List St) : Int → List Int → Int → Prop
  | nil (x : Int) : Up L x [] x
  | cons {x y : Int} {s : St} {l : List Int} : look L x = some s → s.fr ≠ -1 → Up L s.fr l y → Up L x (x :: l) y
/-- What is kept of states: numbers grow, all come from one. -/
structure Fam (L : List St) (next : Int) : Prop where
  fr : ∀ x s, look L x = some s → -1 ≤ s.fr ∧ s.fr < x ∧ 0 ≤ x ∧ x < next
  rt : ∃ r s, look L r = some s ∧ s.fr = -1 ∧ ∀ x, look L x ≠ none → ∃ l, Up L x l r
  on : ∀ x s, look L x = some s → s.on ≠ -1 → ∃ s', look L s.on = some s' ∧ s'.fr = x
  few : ∀ x s, look L x = some s → Few 2000 s.by_
section
variable {L : List St} {x y z top next : Int} {l l' : List Int} {s : St}
theorem Up.mono {M : List St} (h : Up L x l y) (hm : ∀ x s, look L x = some s → ∃ s', look M x = some s' ∧ s'.fr = s.fr) : Up M x l y := by
  induction h with
  | nil x => exact .nil x
  | cons h1 h2 h3 ih =>
    obtain ⟨s', q1, q2⟩ := hm _ _ h1
    exact .cons q1 (by rw [q2]; exact h2) (by rw [q2]; exact ih)
theorem Up.trans (h : Up L x l y) (h' : Up L y l' z) : Up L x (l ++ l') z := by
  induction h with
  | nil x => exact h'
  | cons h1 h2 h3 ih => exact .cons h1 h2 (ih h')
theorem Up.there (h : Up L x l y) : ∀ z ∈ l, look L z ≠ none := by
  induction h with
  | nil x => intro z hz; cases hz
  | cons h1 h2 h3 ih =>
    intro z hz
    rcases List.mem_cons.1 hz with rfl | hz
    · rw [h1]; simp
    · exact ih z hz
theorem Fam.up_le (F : Fam L next) (h : Up L x l y) : y ≤ x ∧ (∀ z ∈ l, y < z ∧ z ≤ x) ∧ (l ≠ [] → y < x) := by
  induction h with
  | nil x => exact ⟨by omega, by simp, by simp⟩
  | cons h1 h2 h3 ih =>
    have q := (F.fr _ _ h1).2.1
    refine ⟨by omega, fun z hz => ?_, fun _ => by omega⟩
    rcases List.mem_cons.1 hz with rfl | hz
    · exact ⟨by omega, by omega⟩
    · have := ih.2.1 z hz; exact ⟨this.1, by omega⟩
/-- Two ways from one state: one goes on where the other one ends. -/
theorem Up.split (h : Up L x l y) (h' : Up L x l' z) : (∃ k, Up L y k z ∧ l' = l ++ k) ∨ (∃ k, Up L z k y ∧ l = l' ++ k) := by
  induction h generalizing l' with
  | nil x => exact .inl ⟨l', h', rfl⟩
  | cons h1 h2 h3 ih =>
    cases h' with
    | nil => exact .inr ⟨_, .cons h1 h2 h3, rfl⟩
    | cons k1 k2 k3 =>
      rw [h1] at k1; cases k1
      rcases ih k3 with ⟨k, q1, rfl⟩ | ⟨k, q1, rfl⟩
      · exact .inl ⟨k, q1, rfl⟩
      · exact .inr ⟨k, q1, rfl⟩
theorem Fam.from_there (F : Fam L next) (h : look L x = some s) (hs : s.fr ≠ -1) : look L s.fr ≠ none := by
  obtain ⟨r, sr, h1, h2, h3⟩ := F.rt
  obtain ⟨l, hl⟩ := h3 x (by rw [h]; simp)
  cases hl with
  | nil => rw [h] at h1; cases h1; exact absurd h2 hs
  | cons k1 k2 k3 =>
    rw [h] at k1; cases k1
    cases k3 with
    | nil => rw [h1]; simp
    | cons j1 _ _ => rw [j1]; simp
theorem Fam.up_there (F : Fam L next) (h : Up L x l y) (hx : look L x ≠ none) : look L y ≠ none := by
  induction h with
  | nil x => exact hx
  | cons h1 h2 h3 ih => exact ih (F.from_there h1 h2)
/-- Where two ways up meet. -/
structure Meet (L : List St) (a b top : Int) (l1 l2 : List Int) : Prop where
  u1 : Up L a l1 top
  u2 : Up L b l2 top
  ap : ∀ x ∈ l1, ∀ l, ¬ Up L b l x
theorem Up.at_ (h : Up L x l y) (hz : z ∈ l) : ∃ k k', Up L x k z ∧ Up L z (z :: k') y ∧ l = k ++ z :: k' := by
  induction h with
  | nil x => cases hz
  | cons h1 h2 h3 ih =>
    rcases List.mem_cons.1 hz with rfl | hz
    · exact ⟨[], _, .nil _, .cons h1 h2 h3, rfl⟩
    · obtain ⟨k, k', q1, q2, rfl⟩ := ih hz
      exact ⟨_ :: k, k', .cons h1 h2 q1, q2, rfl⟩
theorem Fam.up_self (F : Fam L next) (h : Up L x l x) : l = [] := by
  cases l with
  | nil => rfl
  | cons a r => have := (F.up_le h).2.2 (by simp); omega
theorem Fam.up_one (F : Fam L next) (h : Up L x l y) (h' : Up L x l' y) : l = l' := by
  rcases h.split h' with ⟨k, q, rfl⟩ | ⟨k, q, rfl⟩ <;> rw [F.up_self q, List.append_nil]
/-- There is but one. -/
theorem Fam.meet_one {a b top' : Int} {l1 l2 l1' l2' : List Int} (F : Fam L next) (h : Meet L a b top l1 l2) (h' : Meet L a b top' l1' l2') : top = top' ∧ l1 = l1' ∧ l2 = l2' := by
  have e : top = top' := by
    rcases h.u1.split h'.u1 with ⟨k, q, e⟩ | ⟨k, q, e⟩
    · cases q with
      | nil => rfl
      | cons q1 q2 q3 => exact absurd h.u2 (h'.ap top (by rw [e]; simp) _)
    · cases q with
      | nil => rfl
      | cons q1 q2 q3 => exact absurd h'.u2 (h.ap top' (by rw [e]; simp) _)
  subst e
  exact ⟨rfl, F.up_one h.u1 h'.u1, F.up_one h.u2 h'.u2⟩
/-- While one looks for it: one has come up from a, the other one from b. -/
structure Mtg (L : List St) (a b u v : Int) (la lb : List Int) : Prop where
  u1 : Up L a la u
  u2 : Up L b lb v
  p1 : ∀ x ∈ la, ∀ l, ¬ Up L b l x
  p2 : ∀ x ∈ lb, ∀ l, ¬ Up L a l x
theorem Up.snoc (h : Up L x l y) (hy : look L y = some s) (hs : s.fr ≠ -1) : Up L x (l ++ [y]) s.fr := h.trans (.cons hy hs (.nil _))
theorem Fam.mtg_left {a b u v : Int} {la lb : List Int} (F : Fam L next) (h : Mtg L a b u v la lb) (hv : v < u) (ha : look L a ≠ none) (hb : look L b ≠ none) : ∃ s, look L u = some s ∧ s.fr ≠ -1 ∧ Mtg L a b s.fr v (la ++ [u]) lb := by
  obtain ⟨s, hs⟩ := Option.ne_none_iff_exists'.1 (F.up_there h.u1 ha)
  have hf : s.fr ≠ -1 := by
    intro e
    obtain ⟨r, sr, h1, h2, h3⟩ := F.rt
    obtain ⟨k, hk⟩ := h3 u (by rw [hs]; simp)
    cases hk with
    | nil => obtain ⟨k, hk⟩ := h3 v (F.up_there h.u2 hb); have := (F.up_le hk).1; omega
    | cons k1 k2 k3 => rw [hs] at k1; cases k1; exact k2 e
  refine ⟨s, hs, hf, h.u1.snoc hs hf, h.u2, fun x hx l hl => ?_, h.p2⟩
  rcases List.mem_append.1 hx with hx | hx
  · exact h.p1 x hx l hl
  · simp only [List.mem_singleton] at hx; subst hx
    rcases h.u2.split hl with ⟨k, q, _⟩ | ⟨k, q, e⟩
    · have := (F.up_le q).1; omega
    · cases q with
      | nil => omega
      | cons q1 q2 q3 => exact h.p2 x (by rw [e]; simp) _ h.u1
theorem Fam.mtg_right {a b u v : Int} {la lb : List Int} (F : Fam L next) (h : Mtg L a b u v la lb) (hv : u < v) (ha : look L a ≠ none) (hb : look L b ≠ none) : ∃ s, look L v = some s ∧ s.fr ≠ -1 ∧ Mtg L a b u s.fr la (lb ++ [v]) := by
  obtain ⟨s, h1, h2, h3⟩ := F.mtg_left (a := b) (b := a) ⟨h.u2, h.u1, h.p2, h.p1⟩ hv hb ha
  exact ⟨s, h1, h2, h3.u2, h3.u1, h3.p2, h3.p1⟩
theorem Mtg.start (a b : Int) : Mtg L a b a b [] [] := ⟨.nil _, .nil _, by simp, by simp⟩
theorem Mtg.done {a b u : Int} {la lb : List Int} (h : Mtg L a b u u la lb) : Meet L a b u la lb := ⟨h.u1, h.u2, h.p1⟩
/-- Ways on are laid, along a way up. -/
def led (L : List St) : List Int → Int → List St
  | [], _ => L
  | x :: l, top => led (setOn L (l.headD top) x) l top
/-- Along it the ways on lead down. -/
def Ways (L : List St) : List Int → Int → Prop
  | [], _ => True
  | x :: l, top => (∃ s, look L (l.headD top) = some s ∧ s.on = x) ∧ Ways L l top
theorem fr_on (L : List St) (a b : Int) : ∀ x s, look L x = some s → ∃ s', look (setOn L a b) x = some s' ∧ s'.fr = s.fr := fun x s h => by
  rw [look_on, h]
  by_cases q : x = a
  · exact ⟨_, rfl, by simp [q]⟩
  · exact ⟨_, rfl, by simp [q]⟩
theorem fr_on' (L : List St) (a b : Int) : ∀ x s, look (setOn L a b) x = some s → ∃ s', look L x = some s' ∧ s'.fr = s.fr ∧ s'.by_ = s.by_ ∧ (x ≠ a → s' = s) ∧ (x = a → s.on = b) := fun x s h => by
  rw [look_on] at h
  obtain ⟨s0, h1, rfl⟩ := Option.map_eq_some_iff.1 h
  by_cases q : x = a
  · rw [if_pos q]; exact ⟨s0, h1, rfl, rfl, fun e => absurd q e, fun _ => rfl⟩
  · rw [if_neg q]; exact ⟨s0, h1, rfl, rfl, fun _ => rfl, fun e => absurd e q⟩
theorem Up.on (h : Up L x l y) (a b : Int) : Up (setOn L a b) x l y := h.mono (fr_on L a b)
theorem Up.off {a b : Int} (h : Up (setOn L a b) x l y) : Up L x l y := h.mono fun x s q => by obtain ⟨s', q1, q2, _⟩ := fr_on' L a b x s q; exact ⟨s', q1, q2⟩
theorem Fam.setOn (F : Fam L next) {a b : Int} {s : St} (hb : look L b = some s) (hs : s.fr = a) : Fam (setOn L a b) next := by
  refine ⟨fun x s h => ?_, ?_, fun x s h ho => ?_, fun x s h => ?_⟩
  · obtain ⟨s', q1, q2, _⟩ := fr_on' L a b x s h
    rw [← q2]; exact F.fr x s' q1
  · obtain ⟨r, sr, h1, h2, h3⟩ := F.rt
    obtain ⟨s', q1, q2⟩ := fr_on L a b r sr h1
    refine ⟨r, s', q1, q2.trans h2, fun x hx => ?_⟩
    obtain ⟨l, hl⟩ := h3 x ((look_on_ne _ _ _ _).1 hx)
    exact ⟨l, hl.on a b⟩
  · obtain ⟨s', q1, q2, q3, q4, q5⟩ := fr_on' L a b x s h
    by_cases q : x = a
    · subst q
      obtain ⟨s2, p1, p2⟩ := fr_on L x b b _ hb
      rw [q5 rfl]
      exact ⟨s2, p1, p2.trans hs⟩
    · have e := q4 q
      subst e
      obtain ⟨s2, p1, p2⟩ := F.on x s' q1 ho
      obtain ⟨s3, r1, r2⟩ := fr_on L a b _ _ p1
      exact ⟨s3, r1, r2.trans p2⟩
  · obtain ⟨s', q1, q2, q3, _⟩ := fr_on' L a b x s h
    rw [← q3]; exact F.few x s' q1
theorem Up.head (h : Up L x l y) (hl : l ≠ []) : ∃ s r, look L x = some s ∧ l = x :: r ∧ r.headD y = s.fr ∧ Up L s.fr r y := by
  cases h with
  | nil => exact absurd rfl hl
  | cons h1 h2 h3 =>
    refine ⟨_, _, h1, rfl, ?_, h3⟩
    cases h3 with
    | nil => rfl
    | cons => rfl
theorem Fam.led (F : Fam L next) (h : Up L x l y) : Fam (led L l y) next ∧ (led L l y).map St.seq = L.map St.seq := by
  induction l generalizing x L with
  | nil => exact ⟨F, rfl⟩
  | cons a r ih =>
    obtain ⟨s, r', h1, e, h2, h3⟩ := h.head (by simp)
    cases e
    have F' := F.setOn (a := r.headD y) h1 h2.symm
    obtain ⟨q1, q2⟩ := ih F' (h3.on _ _)
    exact ⟨q1, q2.trans (setOn_seq _ _ _)⟩
theorem led_look (h : Up L x l y) (F : Fam L next) : ∀ z, (∀ w ∈ l.drop 1, z ≠ w) → z ≠ y → look (Go.Proofs.YtaefeakmlgjonaaGreat.led L l y) z = look L z := by
  induction l generalizing x L with
  | nil => intro z _ _; rfl
  | cons a r ih =>
    obtain ⟨s, r', h1, e, h2, h3⟩ := h.head (by simp)
    cases e
    intro z hz hy
    have hz' : z ≠ r.headD y := by
      cases r with
      | nil => exact hy
      | cons b r2 => exact hz b (by simp)
    show look (Go.Proofs.YtaefeakmlgjonaaGreat.led (Go.Proofs.YtaefeakmlgjonaaGreat.setOn L (r.headD y) a) r y) z = _
    rw [ih (h3.on _ _) (F.setOn h1 h2.symm) z (fun w hw => hz w (by simp only [List.drop_succ_cons, List.drop_zero]; exact List.mem_of_mem_drop hw)) hy, look_on]
    cases look L z with
    | none => rfl
    | some s0 => rw [Option.map_some, if_neg hz']
theorem Fam.ways (F : Fam L next) (h : Up L x l y) (hx : look L x ≠ none) : Ways (Go.Proofs.YtaefeakmlgjonaaGreat.led L l y) l y := by
  induction l generalizing x L with
  | nil => trivial
  | cons a r ih =>
    obtain ⟨s, r', h1, e, h2, h3⟩ := h.head (by simp)
    cases e
    have F' := F.setOn (a := r.headD y) h1 h2.symm
    have hfr : s.fr ≠ -1 := by cases h with | cons k1 k2 k3 => rw [h1] at k1; cases k1; exact k2
    have ht := F.from_there h1 hfr
    refine ⟨?_, ih F' (h3.on _ _) ((look_on_ne _ _ _ _).2 ht)⟩
    obtain ⟨s2, hs2⟩ := Option.ne_none_iff_exists'.1 ht
    rw [← h2] at hs2
    show ∃ s, look (Go.Proofs.YtaefeakmlgjonaaGreat.led (Go.Proofs.YtaefeakmlgjonaaGreat.setOn L (r.headD y) a) r y) (r.headD y) = some s ∧ s.on = a
    cases r with
    | nil =>
      refine ⟨{ s2 with on := a }, ?_, rfl⟩
      show look (Go.Proofs.YtaefeakmlgjonaaGreat.setOn L y a) y = _
      rw [look_on]
      have : look L y = some s2 := hs2
      rw [this]; simp
    | cons b r2 =>
      have hle := F.up_le h3
      have hhead : b = s.fr := h2
      show ∃ s, look (Go.Proofs.YtaefeakmlgjonaaGreat.led (Go.Proofs.YtaefeakmlgjonaaGreat.setOn L b a) (b :: r2) y) b = some s ∧ s.on = a
      rw [led_look (h3.on b a) F' b ?_ ?_, look_on]
      · have : look L b = some s2 := hs2
        refine ⟨{ s2 with on := a }, ?_, rfl⟩
        rw [this]; simp
      · intro w hw
        have hw' : w ∈ r2 := by simpa using hw
        obtain ⟨s4, r4, j1, j2, j3, j4⟩ := h3.head (by simp)
        cases j2
        have k1 := (F.up_le j4).2.1 w hw'
        have k2 := (F.fr _ _ j1).2.1
        omega
      · have := hle.2.2 (by simp)
        rw [hhead]; omega
end
end Go.Proofs.YtaefeakmlgjonaaGreat
/- meeting, lead. -/
namespace Go.Proofs.YtaefeakmlgjonaaGreat
open Go.ChangeShapes Go.WideShapes Go.ChangeAt Go.RowKit Go.Maps Go.MapKept
set_option linter.unusedVariables false
set_option linter.unusedSimpArgs false
set_option maxRecDepth 100000
section
variable {Q : Nat → Prop} {B C t : Nat} {m : Tr} {w : World}
theorem Fam.rg {L : List St} {next x : Int} (F : Fam L next) (hn : next ≤ 1000000) (hx : look L x ≠ none) : 0 ≤ x ∧ x < 1000000 := by
  obtain ⟨s, hs⟩ := Option.ne_none_iff_exists'.1 hx
  have := F.fr x s hs
  omega
set_option maxHeartbeats 8000000 in
theorem meeting_any (h : Tw Q B C t m w) (F : Fam m.L m.next) (hn : m.next ≤ 1000000) {a b : Int} (ha : look m.L a ≠ none) (hb : look m.L b ≠ none) :
    Calls Tryz.prog 123 #[.pointer (some ⟨t, 0, none⟩), .int .i64 a, .int .i64 b] w fun e w' => ∃ top l1 l2, e = .returned (.int .i64 top) ∧ Meet m.L a b top l1 l2 ∧ ∃ k, w' = w.drewN k := by
  obtain ⟨c, q, h⟩ := h
  have c0 := h.box.at (j := 0) rfl
  have HH : Hid (Tb Q B C t c q m w ∧ Fam m.L m.next ∧ m.next ≤ 1000000 ∧ look m.L a ≠ none ∧ look m.L b ≠ none) := ⟨h, F, hn, ha, hb⟩
  clear h F hn ha hb
  go_enter Tryz.func123, Tryz.ntmps123
  go_wp2_with fail
  go_loopw [1, 2] (fun v1 v2 wr => ∃ (x y : Int) (k : Nat), v1 = .int .i64 x ∧ v2 = .int .i64 y ∧ wr = w.drewN k ∧ 0 ≤ x ∧ x < 1000000 ∧ 0 ≤ y ∧ y < 1000000 ∧ Hid (∃ u v la lb, Mtg m.L a b u v la lb ∧ ((x = u ∧ y = v) ∨ (x = v ∧ y = u)))) (fun v1 v2 _ => (intOf v1 + intOf v2).toNat)
  case atStart =>
    have q1 := HH.out.2.1.rg HH.out.2.2.1 HH.out.2.2.2.1
    have q2 := HH.out.2.1.rg HH.out.2.2.1 HH.out.2.2.2.2
    exact ⟨a, b, 0, rfl, rfl, rfl, q1.1, q1.2, q2.1, q2.2, a, b, [], [], Mtg.start a b, .inl ⟨rfl, rfl⟩⟩
  case round =>
    obtain ⟨x, y, k, rfl, rfl, rfl, x0, x1, y0, y1, HI⟩ := hrel
    by_cases e : x = y
    · subst e
      have d1 : (x != x) = false := by simp
      have HX : Hid (∃ l1 l2, Meet m.L a b x l1 l2) := by
        obtain ⟨u, v, la, lb, h1, h2⟩ := HI.out
        have e1 : u = x ∧ v = x := by omega
        obtain ⟨rfl, rfl⟩ := e1
        exact ⟨la, lb, h1.done⟩
      clear HI
      go_wp2_with fail
      go_ret
      obtain ⟨l1, l2, h1⟩ := HX.out
      exact ⟨x, l1, l2, rfl, h1, k, rfl⟩
    · have d1 : (x != y) = true := by simpa using e
      obtain ⟨s, hs, H2⟩ : ∃ s, look m.L (max x y) = some s ∧ Hid (0 ≤ s.fr ∧ s.fr < max x y ∧ ∃ u v la lb, Mtg m.L a b u v la lb ∧ ((min x y = u ∧ s.fr = v) ∨ (min x y = v ∧ s.fr = u))) := by
        obtain ⟨u, v, la, lb, h1, h2⟩ := HI.out
        rcases Int.lt_or_lt_of_ne (show u ≠ v by omega) with p | p
        · obtain ⟨s, q1, q2, q3⟩ := HH.out.2.1.mtg_right h1 p HH.out.2.2.2.1 HH.out.2.2.2.2
          have e1 : max x y = v := by omega
          have e2 : min x y = u := by omega
          have := HH.out.2.1.fr _ _ q1
          rw [e1, e2]
          exact ⟨s, q1, by omega, by omega, _, _, _, _, q3, .inl ⟨rfl, rfl⟩⟩
        · obtain ⟨s, q1, q2, q3⟩ := HH.out.2.1.mtg_left h1 p HH.out.2.2.2.1 HH.out.2.2.2.2
          have e1 : max x y = u := by omega
          have e2 : min x y = v := by omega
          have := HH.out.2.1.fr _ _ q1
          rw [e1, e2]
          exact ⟨s, q1, by omega, by omega, _, _, _, _, q3, .inr ⟨rfl, rfl⟩⟩
      have hk := fun k' => HH.out.1.get (by omega) (by omega) hs (w.drewN k') (kp_drewN _ k')
      obtain ⟨hp, v, h2, h3⟩ := HH.out.1.st _ _ hs
      have p0 := h2.at (j := 0) rfl
      clear h2 h3 hp HI
      go_wp2_with fail
      go_quiet (fail)
      go_wp2_with fail
      go_roundw
      case rel =>
        obtain ⟨z1, z2, z3⟩ := H2.out
        exact ⟨min x y, s.fr, k + nq, rfl, rfl, by first | exact drew2 _ _ _ | rfl, by omega, by omega, by omega, by omega, z3⟩
      case measure => have := H2.out; simp only [intOf]; omega
set_option maxHeartbeats 8000000 in
theorem lead_any (h : Tw Q B C t m w) (F : Fam m.L m.next) (hn : m.next ≤ 1000000) {seq top : Int} {l : List Int} (hu : Up m.L seq l top) (hs : look m.L seq ≠ none) :
    Calls Tryz.prog 124 #[.pointer (some ⟨t, 0, none⟩), .int .i64 top, .int .i64 seq] w fun e w' => e = .returned (.tuple #[]) ∧ Tw Q B C t { m with L := led m.L l top } w' ∧ Ff TP B w w' := by
  have H0 : Hid (Tw Q B C t m w ∧ Fam m.L m.next ∧ Up m.L seq l top ∧ look m.L seq ≠ none) := ⟨h, F, hu, hs⟩
  obtain ⟨nx, hnx⟩ : ∃ nx, m.next = nx := ⟨_, rfl⟩
  have HN : Hid (m.next = nx ∧ nx ≤ 1000000) := ⟨hnx, by omega⟩
  clear h F hu hs hnx hn
  go_enter Tryz.func124, Tryz.ntmps124
  go_wp2_with fail
  go_loopw [2] (fun v2 wr => ∃ x : Int, v2 = .int .i64 x ∧ Hid (0 ≤ x ∧ ∃ M l', Tw Q B C t { m with L := M } wr ∧ Fam M nx ∧ Up M x l' top ∧ look M x ≠ none ∧ led M l' top = led m.L l top ∧ Ff TP B w wr)) (fun v2 _ => (intOf v2).toNat)
  case atStart =>
    obtain ⟨h1, h2, h3, h4⟩ := H0.out
    have := h2.rg (by have := HN.out; omega) h4
    exact ⟨seq, rfl, this.1, m.L, l, h1, by rw [← HN.out.1]; exact h2, h3, h4, rfl, Ff.refl _ _ _⟩
  case round =>
    obtain ⟨x, rfl, HI⟩ := hrel
    clear H0
    by_cases e : x = top
    · subst e
      have d1 : (x != x) = false := by simp
      have HX : Hid (Tw Q B C t { m with L := led m.L l x } wr ∧ Ff TP B w wr) := by
        obtain ⟨h0, M, l', h1, h2, h3, h4, h5, h6⟩ := HI.out
        have := h2.up_self h3
        subst this
        rw [← h5]; exact ⟨h1, h6⟩
      clear HI
      go_wp2_with fail
      first | go_end0 | refine bodyPost_ret (results_none rfl _ _ _) rfl ?_
      exact ⟨rfl, HX.out⟩
    · have d1 : (x != top) = true := by simpa using e
      obtain ⟨h0, M, l', ⟨b, q, h1⟩, h2, h3, h4, h5, h6⟩ := HI.out
      obtain ⟨s, r, k1, rfl, k2, k3⟩ := h3.head (by rintro rfl; cases h3; exact e rfl)
      have hfr : s.fr ≠ -1 := by cases h3 with | cons a1 a2 a3 => rw [k1] at a1; cases a1; exact a2
      have ht := h2.from_there k1 hfr
      have q1 := h2.rg HN.out.2 h4
      have q2 := h2.rg HN.out.2 ht
      have q3 := h2.fr _ _ k1
      have c0 := h1.box.at (j := 0) rfl
      have hk1 := h1.get (by omega) (by omega) k1 wr (Below.refl _ _)
      obtain ⟨s2, hs2⟩ := Option.ne_none_iff_exists'.1 ht
      have hk2 := h1.get (by omega) (by omega) hs2 wr (Below.refl _ _)
      obtain ⟨_, v, p1, _⟩ := h1.st _ _ k1
      have p0 := p1.at (j := 0) rfl
      obtain ⟨_, v2, p2, _⟩ := h1.st _ _ hs2
      have f1 := p2.fz 1
      have p3 := p2.at (j := 1) rfl
      obtain ⟨r1, r2⟩ := h1.on ht x
      have HX : Hid (0 ≤ s.fr ∧ s.fr < x ∧ ∃ M l', Tw Q B C t { m with L := M } (wr.setCell ⟨q s.fr, 1, none⟩ (.int .i64 x)) ∧ Fam M nx ∧ Up M s.fr l' top ∧ look M s.fr ≠ none ∧ led M l' top = led m.L l top ∧ Ff TP B w (wr.setCell ⟨q s.fr, 1, none⟩ (.int .i64 x))) := by
        refine ⟨q2.1, q3.2.1, setOn M s.fr x, r, ⟨b, q, r1⟩, h2.setOn k1 rfl, k3.on _ _, (look_on_ne _ _ _ _).2 ht, ?_, h6.trans r2⟩
        rw [← h5, ← k2]; rfl
      clear HI h1 h2 h3 h4 h5 h6 k1 k2 k3 hs2 p1 p2 r1 r2 ht
      go_wp2_with fail
      go_roundw
      case rel => exact ⟨s.fr, rfl, HX.out.1, HX.out.2.2⟩
      case measure => have := HX.out; simp only [intOf]; omega
end
end Go.Proofs.YtaefeakmlgjonaaGreat
/- Go. -/
namespace Go.Proofs.YtaefeakmlgjonaaGreat
open Go.ChangeShapes Go.WideShapes Go.ChangeAt Go.RowKit Go.Maps Go.MapKept
set_option linter.unusedVariables false
set_option linter.unusedSimpArgs false
set_option maxRecDepth 100000
/-- By which changes a state was made. -/
def byOf (L : List St) (x : Int) : List Dl := ((look L x).map St.by_).getD []
/-- The changes on a way up, on a way down. -/
def upsD (L : List St) (l : List Int) : List Dl := l.flatMap fun x => turnD (byOf L x)
def dnD (L : List St) (l : List Int) : List Dl := l.reverse.flatMap fun x => byOf L x
section
variable {L : List St} {x y z top next : Int} {l a b : List Int} {s : St}
theorem byOf_some (h : look L x = some s) : byOf L x = s.by_ := by unfold byOf; rw [h]; rfl
theorem upsD_app (a b : List Int) : upsD L (a ++ b) = upsD L a ++ upsD L b := by simp [upsD]
theorem upsD_one (x : Int) : upsD L [x] = turnD (byOf L x) := by simp [upsD]
theorem dnD_cons (x : Int) (l : List Int) : dnD L (x :: l) = dnD L l ++ byOf L x := by simp [dnD]
theorem Fam.few_by (F : Fam L next) (x : Int) : Few 2000 (byOf L x) := by
  unfold byOf
  cases h : look L x with
  | none => exact ⟨by simp, by simp⟩
  | some s => exact F.few x s h
theorem Fam.ups_len (F : Fam L next) (l : List Int) : (upsD L l).length ≤ 2000 * l.length := by
  induction l with
  | nil => simp [upsD]
  | cons a r ih =>
    have e : upsD L (a :: r) = turnD (byOf L a) ++ upsD L r := by simp [upsD]
    rw [e, List.length_append, turnD_len, List.length_cons]
    have := (F.few_by a).1
    omega
theorem Fam.dn_len (F : Fam L next) (l : List Int) : (dnD L l).length ≤ 2000 * l.length := by
  induction l with
  | nil => simp [dnD]
  | cons a r ih =>
    rw [dnD_cons, List.length_append, List.length_cons]
    have := (F.few_by a).1
    omega
theorem Fam.up_len (F : Fam L next) (h : Up L x l y) : (l.length : Int) ≤ x - y := by
  induction h with
  | nil x => simp
  | cons h1 h2 h3 ih => have := (F.fr _ _ h1).2.1; simp only [List.length_cons]; omega
theorem Up.cut (h : Up L x (a ++ b) y) : Up L x a (b.headD y) ∧ Up L (b.headD y) b y := by
  induction a generalizing x with
  | nil =>
    cases b with
    | nil => cases h; exact ⟨.nil _, .nil _⟩
    | cons c r =>
      obtain ⟨s, r', k1, e, k2, k3⟩ := h.head (by simp)
      cases e
      exact ⟨.nil _, h⟩
  | cons c a ih =>
    obtain ⟨s, r', k1, e, k2, k3⟩ := h.head (by simp)
    cases e
    obtain ⟨q1, q2⟩ := ih k3
    refine ⟨.cons k1 ?_ q1, q2⟩
    cases h with
    | cons j1 j2 j3 => rw [k1] at j1; cases j1; exact j2
theorem Ways.tail (h : Ways L (a ++ b) top) : Ways L b top := by
  induction a with
  | nil => exact h
  | cons c a ih => exact ih h.2
theorem by_on (L : List St) (a b x : Int) : byOf (setOn L a b) x = byOf L x := by
  unfold byOf; rw [look_on]
  cases look L x with
  | none => rfl
  | some s => simp only [Option.map_some, Option.getD_some]; split <;> rfl
theorem by_led : ∀ (l : List Int) (L : List St) (x : Int), byOf (led L l y) x = byOf L x
  | [], _, _ => rfl
  | c :: r, L, x => by show byOf (led (setOn L (r.headD y) c) r y) x = _; rw [by_led r, by_on]
theorem ne_led : ∀ (l : List Int) (L : List St) (x : Int), look (led L l y) x ≠ none ↔ look L x ≠ none
  | [], _, _ => Iff.rfl
  | c :: r, L, x => by show look (led (setOn L (r.headD y) c) r y) x ≠ none ↔ _; rw [ne_led r, look_on_ne]
theorem fr_led : ∀ (l : List Int) (L : List St) (x : Int) (s : St), look L x = some s → ∃ s', look (led L l y) x = some s' ∧ s'.fr = s.fr
  | [], _, _, s, h => ⟨s, h, rfl⟩
  | c :: r, L, x, s, h => by
    obtain ⟨s1, q1, q2⟩ := fr_on L (r.headD y) c x s h
    obtain ⟨s2, q3, q4⟩ := fr_led r _ x s1 q1
    exact ⟨s2, q3, q4.trans q2⟩
theorem Up.led (h : Up L x l y) (l' : List Int) (y' : Int) : Up (Go.Proofs.YtaefeakmlgjonaaGreat.led L l' y') x l y := h.mono (fr_led l' L)
end
theorem Ff.new {T : Obj → Prop} {B : Nat} {w w1 w2 : World} (h : Ff T B w w1) (k : Below w.heap.size w1 w2) : Ff T B w w2 :=
  ⟨k.os.trans (Fr.os h), k.tape.trans (Fr.tape h), k.output.trans (Fr.output h), Nat.le_trans (Fr.size h) k.size, fun j hj hn => (k.block j hj).trans (Fr.block h j hj hn)⟩
/-- The number of the one that is, as it lies there. -/
def nowOf (t : Nat) (w : World) : Nat := match w.cell? ⟨t, 1, none⟩ with
  | some v => (intOf v).toNat
  | none => 0
theorem nowOf_eq {Q : Nat → Prop} {B C t : Nat} {m : Tr} {w : World} (h : Tw Q B C t m w) : nowOf t w = m.now.toNat := by
  obtain ⟨b, q, h⟩ := h
  unfold nowOf
  rw [h.box.at (j := 1) rfl]
  rfl
theorem rg_of {x : Int} (h : 0 ≤ x ∧ x < 1000000) : Rg x := ⟨by omega, by omega⟩
theorem eqlP (ad : Addr) (w : World) : Sem.run Tryz.prog (binOp BinOp.eql 124 (.pointer (some ad)) (.pointer none)) w = .ok (.bool false) w := by kernel_rfl
section
variable {Q : Nat → Prop} {B C t : Nat} {m : Tr} {w : World}
set_option maxHeartbeats 4000000 in
theorem go_none (h : Tw Q B C t m w) {seq : Int} (hr : Rg seq) (hs : look m.L seq = none) :
    Calls Tryz.prog 80 #[.pointer (some ⟨t, 0, none⟩), .int .i64 seq] w fun e w' => e = .returned (.tuple #[.slice none 0 0, .int .u16 120]) ∧ w' = w := by
  obtain ⟨b, q, h⟩ := h
  have c0 := h.box.at (j := 0) rfl
  have hlk := h.getn hr.1 hr.2 hs w (Below.refl _ _)
  clear h
  go_enter Tryz.func80, Tryz.ntmps80
  go_wp2
  go_ret2
  exact ⟨rfl, rfl⟩
/-- Where a round of the way up stands. -/
def GoU (Q : Nat → Prop) (B C t : Nat) (w : World) (m : Tr) (top : Int) (l1 : List Int) (v : Value) (wr : World) : Prop :=
  ∃ y la lr, l1 = la ++ lr ∧ Up m.L y lr top ∧ look m.L y ≠ none ∧ Dw w.heap.size v (upsD m.L la) wr ∧ Tw Q B C t { m with now := y } wr ∧ Ff TP B w wr
/-- Where a round of the way down stands. -/
def GoD (Q : Nat → Prop) (B C t : Nat) (w : World) (m : Tr) (top : Int) (l2 : List Int) (us : List Dl) (v : Value) (wr : World) : Prop :=
  ∃ lc lr, l2 = lc ++ lr ∧ Dw w.heap.size v (us ++ dnD m.L lr) wr ∧ Tw Q B C t { m with L := led m.L l2 top, now := lr.headD top } wr ∧ Ff TP B w wr
/-- What Go leaves. -/
def Went (Q : Nat → Prop) (B C t : Nat) (w : World) (v : Value) (m : Tr) (seq : Int) (w' : World) : Prop :=
  ∃ top l1 l2, Meet m.L m.now seq top l1 l2 ∧ Gone Q B C t w v (upsD m.L l1 ++ dnD m.L l2) { m with L := led m.L l2 top, now := seq } w'
set_option maxHeartbeats 16000000 in
theorem go_any (h : Tw Q B C t m w) (hC : C ≤ w.heap.size) (F : Fam m.L m.next) (hn : m.next ≤ 10000) {seq : Int} (hw : look m.L m.now ≠ none) (hs : look m.L seq ≠ none) :
    Calls Tryz.prog 80 #[.pointer (some ⟨t, 0, none⟩), .int .i64 seq] w fun e w' => ∃ v, e = .returned (.tuple #[v, .int .u16 0]) ∧ Went Q B C t w v m seq w' := by
  have HM : Hid (∀ k, Calls Tryz.prog 123 #[.pointer (some ⟨t, 0, none⟩), .int .i64 m.now, .int .i64 seq] (w.drewN k) fun e w' => ∃ top l1 l2, e = .returned (.int .i64 top) ∧ Meet m.L m.now seq top l1 l2 ∧ ∃ k, w' = w.drewN k) := fun k => by
    refine (meeting_any (h.kp (kp_drewN w k)) F (by omega) hw hs).mono ?_
    rintro e w' ⟨top, l1, l2, rfl, q1, k', rfl⟩
    exact ⟨top, l1, l2, rfl, q1, k + k', by rw [drew2]⟩
  have HH : Hid (Tw Q B C t m w ∧ C ≤ w.heap.size ∧ Fam m.L m.next ∧ m.next ≤ 10000 ∧ look m.L m.now ≠ none ∧ look m.L seq ≠ none) := ⟨h, hC, F, hn, hw, hs⟩
  obtain ⟨b, q, h⟩ := h
  have c0 := h.box.at (j := 0) rfl
  have c1 := h.box.at (j := 1) rfl
  obtain ⟨s0, hs0⟩ := Option.ne_none_iff_exists'.1 hs
  have hsr := F.rg (by omega) hs
  have hlk := h.get (by omega) (by omega) hs0 w (Below.refl _ _)
  have he := eqlP ⟨q seq, 0, none⟩
  clear h hs0 hs hw F hC hn
  go_enter Tryz.func80, Tryz.ntmps80
  go_wp2_with fail
  refine Calls.mono (HM.out 0) ?_
  rintro e w1 ⟨top, l1, l2, rfl, hm, k1, rfl⟩
  have HT : Hid (Meet m.L m.now seq top l1 l2) := hm
  clear hm HM
  go_wp2_with fail
  go_loopw [6] (fun v6 wr => ∃ (a' : Option Addr) (n c' : Nat), v6 = .slice a' n c' ∧ Hid (GoU Q B C t w m top l1 (.slice a' n c') wr)) (fun _ wr => nowOf t wr)
  case atStart =>
    exact ⟨none, 0, 0, rfl, m.now, [], l1, rfl, HT.out.u1, HH.out.2.2.2.2.1, Dx.nil _ _ _, HH.out.1.kp (kp_drewN _ _), Ff.kp (kp_drewN _ _)⟩
  case round =>
    obtain ⟨a', n, c', rfl, HI⟩ := hrel
    clear c0 c1 hlk he
    obtain ⟨y, la, lr, e1, u1, hy, d1, t1, f1⟩ := HI.out
    have c1 : wr.cell? ⟨t, 1, none⟩ = some (.int .i64 y) := by obtain ⟨b, q, h⟩ := t1; exact h.box.at (j := 1) rfl
    by_cases e : y = top
    · subst e
      have g1 : (y != y) = false := by simp
      have hl0 := HH.out.2.2.1.up_self u1
      subst hl0
      have H1 : Hid (Dw w.heap.size (.slice a' n c') (upsD m.L l1) wr ∧ Tw Q B C t { m with now := y } wr ∧ Ff TP B w wr) := ⟨by rw [e1, List.append_nil]; exact d1, t1, f1⟩
      have HL : Hid _ := lead_any t1 HH.out.2.2.1 (by have := HH.out.2.2.2.1; show m.next ≤ _; omega) HT.out.u2 HH.out.2.2.2.2.2
      clear HI d1 t1 f1 e1 u1 hy
      go_wp2_with fail
      refine Calls.mono HL.out ?_
      rintro e w2 ⟨rfl, t2, f2⟩
      have H2 : Hid (Dw w.heap.size (.slice a' n c') (upsD m.L l1) w2 ∧ Tw Q B C t { m with L := led m.L l2 y, now := y } w2 ∧ Ff TP B w w2) := ⟨H1.out.1.ff f2 tp_delta tp_str, t2, H1.out.2.2.trans f2⟩
      clear HL H1 t2 f2 c1 g1
      go_wp2_with fail
      go_loopw [6] (fun v6 wr => ∃ (a' : Option Addr) (n c' : Nat), v6 = .slice a' n c' ∧ Hid (GoD Q B C t w m y l2 (upsD m.L l1) (.slice a' n c') wr)) (fun _ wr => seq.toNat - nowOf t wr)
      case atStart => exact ⟨a', n, c', rfl, l2, [], by simp, by simpa [dnD] using H2.out.1, H2.out.2.1, H2.out.2.2⟩
      case round =>
        clear H2
        obtain ⟨a2, n2, c2, rfl, HI⟩ := hrel
        obtain ⟨lc, lr, e1, d1, t1, f1⟩ := HI.out
        have c1 : wr.cell? ⟨t, 1, none⟩ = some (.int .i64 (lr.headD y)) := by obtain ⟨b, q, h⟩ := t1; exact h.box.at (j := 1) rfl
        have hu := HT.out.u2
        rw [e1] at hu
        obtain ⟨hu1, hu2⟩ := hu.cut
        by_cases e : lr.headD y = seq
        · have g1 : (seq != seq) = false := by simp
          rw [e] at hu1 c1
          have hl0 := HH.out.2.2.1.up_self hu1
          subst hl0
          have e2 : l2 = lr := e1
          have H3 : Hid (Gone Q B C t w (.slice a2 n2 c2) (upsD m.L l1 ++ dnD m.L l2) { m with L := led m.L l2 y, now := seq } wr) := ⟨by rw [e2]; exact d1, by rw [← e]; exact t1, f1⟩
          clear HI d1 t1 f1 hu1 hu2 hu e2 e1
          go_wp2_with fail
          go_ret2
          exact ⟨_, rfl, y, l1, l2, HT.out, H3.out⟩
        · obtain ⟨p, hp⟩ : ∃ p, lr.headD y = p := ⟨_, rfl⟩
          have g1 : (p != seq) = true := by rw [← hp]; simpa using e
          rw [hp] at c1
          obtain ⟨lc', z, rfl⟩ : ∃ lc' z, lc = lc' ++ [z] := by
            rcases List.eq_nil_or_concat lc with rfl | ⟨l0, z, h0⟩
            · exfalso
              cases hu1
              exact e rfl
            · exact ⟨l0, z, by rw [h0, List.concat_eq_append]⟩
          have F2 := HH.out.2.2.1.led HT.out.u2
          have hw2 := HH.out.2.2.1.ways HT.out.u2 HH.out.2.2.2.2.2
          rw [e1, List.append_assoc, List.singleton_append] at hw2
          obtain ⟨⟨s, hs, hon⟩, _⟩ := hw2.tail
          rw [← List.singleton_append, ← List.append_assoc, ← e1] at hs
          have hnm := HH.out.2.2.2.1
          have hz : look (led m.L l2 y) z ≠ none := (ne_led _ _ _).2 (hu.there z (by simp))
          obtain ⟨s', hs'⟩ := Option.ne_none_iff_exists'.1 hz
          have r1 := F2.1.rg (by omega) (x := lr.headD y) (by rw [hs]; simp)
          have r2 := F2.1.rg (by omega) hz
          have hby := F2.1.few _ _ hs'
          obtain ⟨s'', k1, k2⟩ := F2.1.on _ _ hs (by omega)
          rw [hon, hs'] at k1
          cases k1
          have hlt := F2.1.fr _ _ hs'
          have hzs : z ≤ seq := ((HH.out.2.2.1.up_le hu).2.1 z (by simp)).2
          have hb2 : byOf m.L z = s'.by_ := by rw [← by_led l2 m.L z]; exact byOf_some hs'
          have hlen : (upsD m.L l1 ++ dnD m.L lr).length = n2 := by obtain ⟨a', c', e', _⟩ := d1.form; cases e'; rfl
          have hsz : n2 + s'.by_.length ≤ 1000000000 := by
            have q1 := HH.out.2.2.1.ups_len l1
            have q2 := HH.out.2.2.1.dn_len lr
            have q3 := HH.out.2.2.1.up_len HT.out.u1
            have q4 := HH.out.2.2.1.up_len hu2
            have q5 := HH.out.2.2.1.rg (by omega) HH.out.2.2.2.2.1
            have q6 := HH.out.2.2.1.fr m.now
            have q7 := hby.1
            have q8 := HH.out.2.2.1.up_le HT.out.u1
            have q9 := HH.out.2.2.1.rg (by omega) (HH.out.2.2.1.up_there HT.out.u1 HH.out.2.2.2.2.1)
            have q10 := HH.out.2.2.1.up_there hu1 HH.out.2.2.2.2.2
            obtain ⟨sn, hsn⟩ := Option.ne_none_iff_exists'.1 HH.out.2.2.2.2.1
            have q11 := HH.out.2.2.1.fr _ _ hsn
            obtain ⟨sm, hsm⟩ := Option.ne_none_iff_exists'.1 q10
            have q12 := HH.out.2.2.1.fr _ _ hsm
            rw [List.length_append] at hlen
            omega
          have HD : Hid _ := down_any (m := { m with L := led m.L l2 y, now := lr.headD y }) t1 (rg_of r1) hs (by rw [hon]; exact rg_of r2) (by rw [hon]; exact hs') hby (by omega)
          have H3 : Hid (∀ v4 w4, Gone Q B C t wr v4 s'.by_ { m with L := led m.L l2 y, now := s.on } w4 → ∃ a4 c4, v4 = .slice a4 s'.by_.length c4 ∧ Hid (Dw w.heap.size (.slice a2 n2 c2) (upsD m.L l1 ++ dnD m.L lr) w4 ∧ Dr (fun k => w.heap.size ≤ k) (Row w.heap.size) (.slice a4 s'.by_.length c4) s'.by_ w4 ∧ w.heap.size ≤ w4.heap.size ∧ Tw Q B C t { m with L := led m.L l2 y, now := z } w4 ∧ Ff TP B w w4)) := by
            rintro v4 w4 ⟨x1, x2, x3⟩
            obtain ⟨a4, c4, rfl, _⟩ := x1.form
            exact ⟨a4, c4, rfl, d1.ff x3 tp_delta tp_str, (x1.lower f1.size f1.size).dr, Nat.le_trans f1.size x3.size, by rw [← hon]; exact x2, f1.trans x3⟩
          have H4 : Hid (∀ a5 c5 w4 w5, Dw w.heap.size (.slice a2 n2 c2) (upsD m.L l1 ++ dnD m.L lr) w4 → Tw Q B C t { m with L := led m.L l2 y, now := z } w4 → Ff TP B w w4 → Dw w.heap.size (.slice a5 (n2 + s'.by_.length) c5) (upsD m.L l1 ++ dnD m.L lr ++ s'.by_) w5 → w4.grownBy w5 (Value.slice a2 n2 c2).ownBlock → Below w.heap.size w4 w5 → GoD Q B C t w m y l2 (upsD m.L l1) (.slice a5 (n2 + s'.by_.length) c5) w5 ∧ nowOf t w5 = z.toNat) := fun a5 c5 w4 w5 x1 x2 x3 x4 x5 x6 => by
            obtain ⟨cs, z1, z2⟩ := x1
            have t5 := x2.app (row_lift z1 fun j hj => Nat.le_trans HH.out.2.1 (z1.lt j hj).1) x5
            refine ⟨⟨lc', z :: lr, by rw [e1]; simp, ?_, t5, x3.new x6⟩, nowOf_eq t5⟩
            rw [dnD_cons, hb2, ← List.append_assoc]; exact x4
          have hnw := nowOf_eq t1
          have hme : z.toNat ≤ seq.toNat ∧ (lr.headD y).toNat < z.toNat := by
            have : s'.fr < z := hlt.2.1
            have e5 : s'.fr = lr.headD y := k2
            omega
          clear hw2 hs hs' F2 HI d1 t1 f1 hu hu1 hu2 hlt hb2 hz hby
          have hpe : Hid (lr.headD y = p) := hp
          clear hp e r1
          go_wp2_with fail
          refine Calls.mono HD.out ?_
          rintro e w4 ⟨v4, rfl, q4⟩
          obtain ⟨a4, c4, rfl, H5⟩ := H3.out _ _ q4
          clear HD H3 q4
          have HL : Hid ((upsD m.L l1 ++ dnD m.L lr).length + s'.by_.length = n2 + s'.by_.length) := by rw [hlen]; rfl
          go_wp2_with (at_builtin; refine wpl_del (K := n2 + s'.by_.length) rfl (.tmp 42) (.tmp 44) rfl (okRow _ _) rfl H5.out.1 rfl H5.out.2.1 HL.out (by omega) H5.out.2.2.1 ?_; intro a5 c5 w5 _ _ q1 q2 q3; have H6 : Hid _ := H4.out a5 c5 w4 w5 H5.out.1 H5.out.2.2.2.1 H5.out.2.2.2.2 q1 q2 q3; clear q1 q2 q3)
          go_roundw
          case rel => exact ⟨a5, _, c5, rfl, H6.out.1⟩
          case measure => rw [H6.out.2, hnw]; show seq.toNat - z.toNat < seq.toNat - (lr.headD y).toNat; omega
    · have g1 : (y != top) = true := by simpa using e
      obtain ⟨s, r, k1, rfl, k2, k3⟩ := u1.head (by rintro rfl; cases u1; exact e rfl)
      have hfr : s.fr ≠ -1 := by cases u1 with | cons a1 a2 a3 => rw [k1] at a1; cases a1; exact a2
      have ht := HH.out.2.2.1.from_there k1 hfr
      have hnm := HH.out.2.2.2.1
      have r1 := HH.out.2.2.1.rg (by omega) hy
      have hby := HH.out.2.2.1.few _ _ k1
      have hlt := HH.out.2.2.1.fr _ _ k1
      have hlen : (upsD m.L la).length = n := by obtain ⟨a', c', e', _⟩ := d1.form; cases e'; rfl
      have hu := HT.out.u1
      rw [e1] at hu
      obtain ⟨hu1, hu2⟩ := hu.cut
      have hsz : n + s.by_.length ≤ 1000000000 := by
        have q1 := HH.out.2.2.1.ups_len la
        have q3 := HH.out.2.2.1.up_len hu1
        have q7 := hby.1
        obtain ⟨sn, hsn⟩ := Option.ne_none_iff_exists'.1 HH.out.2.2.2.2.1
        have q11 := HH.out.2.2.1.fr _ _ hsn
        have : (y :: r).headD top = y := rfl
        rw [this] at q3
        omega
      have HD : Hid _ := up_any (m := { m with now := y }) t1 (rg_of r1) k1 hby (by omega)
      have H3 : Hid (∀ v4 w4, Gone Q B C t wr v4 (turnD s.by_) { m with now := s.fr } w4 → ∃ a4 c4, v4 = .slice a4 s.by_.length c4 ∧ Hid (Dw w.heap.size (.slice a' n c') (upsD m.L la) w4 ∧ Dr (fun k => w.heap.size ≤ k) (Row w.heap.size) (.slice a4 s.by_.length c4) (turnD s.by_) w4 ∧ w.heap.size ≤ w4.heap.size ∧ Tw Q B C t { m with now := s.fr } w4 ∧ Ff TP B w w4)) := by
        rintro v4 w4 ⟨x1, x2, x3⟩
        obtain ⟨a4, c4, e4, _⟩ := x1.form
        rw [turnD_len] at e4
        subst e4
        exact ⟨a4, c4, rfl, d1.ff x3 tp_delta tp_str, (x1.lower f1.size f1.size).dr, Nat.le_trans f1.size x3.size, x2, f1.trans x3⟩
      have H4 : Hid (∀ a5 c5 w4 w5, Dw w.heap.size (.slice a' n c') (upsD m.L la) w4 → Tw Q B C t { m with now := s.fr } w4 → Ff TP B w w4 → Dw w.heap.size (.slice a5 (n + s.by_.length) c5) (upsD m.L la ++ turnD s.by_) w5 → w4.grownBy w5 (Value.slice a' n c').ownBlock → Below w.heap.size w4 w5 → GoU Q B C t w m top l1 (.slice a5 (n + s.by_.length) c5) w5 ∧ nowOf t w5 = s.fr.toNat) := fun a5 c5 w4 w5 x1 x2 x3 x4 x5 x6 => by
        obtain ⟨cs, z1, z2⟩ := x1
        have t5 := x2.app (row_lift z1 fun j hj => Nat.le_trans HH.out.2.1 (z1.lt j hj).1) x5
        refine ⟨⟨s.fr, la ++ [y], r, by rw [e1]; simp, k3, ht, ?_, t5, x3.new x6⟩, nowOf_eq t5⟩
        rw [upsD_app, upsD_one, byOf_some k1]; exact x4
      have hnw := nowOf_eq t1
      have hme : s.fr.toNat < y.toNat := by
        have := HH.out.2.2.1.rg (by omega) ht
        omega
      clear HI d1 t1 f1 hu hu1 hu2 hlt k1 k2 k3 ht hby u1 hy
      go_wp2_with fail
      refine Calls.mono HD.out ?_
      rintro e w4 ⟨v4, rfl, q4⟩
      obtain ⟨a4, c4, rfl, H5⟩ := H3.out _ _ q4
      clear HD H3 q4
      have HL : Hid ((upsD m.L la).length + (turnD s.by_).length = n + s.by_.length) := by rw [hlen, turnD_len]; rfl
      go_wp2_with (at_builtin; refine wpl_del (K := n + s.by_.length) rfl (.tmp 28) (.tmp 30) rfl (okRow _ _) rfl H5.out.1 rfl H5.out.2.1 HL.out (by omega) H5.out.2.2.1 ?_; intro a5 c5 w5 _ _ q1 q2 q3; have H6 : Hid _ := H4.out a5 c5 w4 w5 H5.out.1 H5.out.2.2.2.1 H5.out.2.2.2.2 q1 q2 q3; clear q1 q2 q3)
      go_roundw
      case rel => exact ⟨a5, _, c5, rfl, H6.out.1⟩
      case measure => rw [H6.out.2, hnw]; exact hme
end
end Go.Proofs.YtaefeakmlgjonaaGreat
/- Add, as long as there is room. -/
namespace Go.Proofs.YtaefeakmlgjonaaGreat
open Go.ChangeShapes Go.WideShapes Go.ChangeAt Go.RowKit Go.Maps Go.MapKept
set_option linter.unusedVariables false
set_option linter.unusedSimpArgs false
set_option maxRecDepth 100000
theorem look_snoc {L : List St} {x : Int} (h : look L x = none) (fr on : Int) (ds : List Dl) (y : Int) : look (L ++ [⟨x, fr, on, ds⟩]) y = if y = x then some ⟨x, fr, on, ds⟩ else look L y := by
  rw [look_app]
  by_cases q : y = x
  · subst q; rw [h, if_pos rfl, look_cons, if_pos rfl]; rfl
  · rw [if_neg q, look_cons, if_neg (fun e => q e.symm)]
    cases look L y <;> rfl
section
variable {Q : Nat → Prop} {B C t b : Nat} {q : Int → Nat} {m : Tr} {w w1 : World}
/-- One state more. -/
theorem Tb.add (h : Tb Q B C t b q m w) {x fr : Int} (h0 : -9223372036854775808 ≤ x) (h1 : x < 9223372036854775808) (hx : look m.L x = none) {v : Value} {ds : List Dl} (hv : Dx (RQ Q) 0 v ds w) (hne : look m.L m.now ≠ none) {p : Nat} (hp : Lc 123 p [.int .i64 fr, .int .i64 (-1), v] w) (hB : B ≤ p) (hf : ∀ y, look m.L y ≠ none → q y ≠ p) :
    ∃ w', (Instr.mapUpdate 117 (.map (some b)) (.int .i64 x) (.pointer (some ⟨p, 0, none⟩))).run Tryz.prog w = .ok () w' ∧ Tb Q B w'.heap.size t b (fun y => if y = x then p else q y) { m with L := m.L ++ [⟨x, fr, -1, ds⟩] } w' ∧ Ff TP B w w' ∧ Fr (On b) w w' ∧ w'.heap.size = w.heap.size := by
  obtain ⟨w', hr, hm, f, hz⟩ := h.map.store h0 h1 Tryz.underlying117 (.pointer (some ⟨p, 0, none⟩))
  obtain ⟨es, cl, hmb, _⟩ := h.map
  refine ⟨w', hr, ⟨h.lt, h.lb, h.box.fr f (h.map.ne h.box), ?_, fun y s hy => ?_, fun y z hy hz e => ?_⟩, Ff.on f h.lb hmb (h.key hne hmb), f, hz⟩
  · have e : ptrs (m.L ++ [⟨x, fr, -1, ds⟩]) (fun y => if y = x then p else q y) = upd (ptrs m.L q) x (some (.pointer (some ⟨p, 0, none⟩))) := by
      funext y; unfold ptrs upd; rw [look_snoc hx]
      by_cases c : y = x
      · subst c; simp
      · simp [c]
    show Mp b (ptrs (m.L ++ [⟨x, fr, -1, ds⟩]) (fun y => if y = x then p else q y)) w'
    rw [e]; exact hm
  · have hy' : look (m.L ++ [⟨x, fr, -1, ds⟩]) y = some s := hy
    rw [look_snoc hx] at hy'
    by_cases c : y = x
    · rw [if_pos c] at hy'; cases hy'
      show Bx Q B w'.heap.size (if y = x then p else q y) _ _
      rw [if_pos c]
      refine Bx.sized (C := w.heap.size) (Bx.onMap ⟨hB, v, hp, hv, ?_⟩ f hmb)
      intro j hj
      obtain ⟨cs, r1, _⟩ := hv
      exact (r1.lt j hj).2
    · rw [if_neg c] at hy'
      show Bx Q B w'.heap.size (if y = x then p else q y) _ _
      rw [if_neg c]
      exact ((h.st y s hy').onMap f hmb).sized
  · have hy' : look (m.L ++ [⟨x, fr, -1, ds⟩]) y ≠ none := hy
    have hz' : look (m.L ++ [⟨x, fr, -1, ds⟩]) z ≠ none := hz
    rw [look_snoc hx] at hy' hz'
    replace e : (if y = x then p else q y) = (if z = x then p else q z) := e
    by_cases c : y = x
    · by_cases d : z = x
      · rw [c, d]
      · rw [if_neg d] at hz' e; rw [if_pos c] at e
        exact absurd e.symm (hf z hz')
    · rw [if_neg c] at hy' e
      by_cases d : z = x
      · rw [if_pos d] at e; exact absurd e (hf y hy')
      · rw [if_neg d] at hz' e; exact h.inj y z hy' hz' e
/-- How many. -/
theorem Tb.len (h : Tb Q B C t b q m w) (hn : (m.L.map St.seq).Nodup) (ty : TypeId) (z : World) (k : Kp w z) : (Builtin.len_ #[117] ty #[.map (some b)]).run Tryz.prog z = .ok (.int .i64 m.L.length) z := by
  obtain ⟨es, c, hb, S, H⟩ := h.map.kp k
  have e : es.size = m.L.length := by
    have hp : (es.toList.map (·.key)).Perm (m.L.map fun s => Value.int .i64 s.seq) := by
      refine (List.perm_ext_iff_of_nodup ?_ ?_).2 fun v => ?_
      · have := ((stamped_iff es c).1 S).2.2
        exact List.pairwise_map.2 this
      · have : (m.L.map fun s => Value.int .i64 s.seq) = (m.L.map St.seq).map (Value.int .i64) := by simp
        rw [this]
        exact List.pairwise_map.2 (hn.imp fun h e => h (by cases e; rfl))
      · rw [List.mem_map, List.mem_map]
        constructor
        · rintro ⟨a, ha, rfl⟩
          obtain ⟨x, hx, _, _, hv⟩ := H.on a ha
          unfold ptrs at hv
          obtain ⟨s, hs, _⟩ := Option.map_eq_some_iff.1 hv
          exact ⟨s, look_mem hs, by rw [hx, look_seq hs]⟩
        · rintro ⟨s, hs, rfl⟩
          have : look m.L s.seq ≠ none := by
            intro e
            have := List.find?_eq_none.1 e s hs
            simp at this
          obtain ⟨s', hs'⟩ := Option.ne_none_iff_exists'.1 this
          obtain ⟨a, ha, hk, _⟩ := H.at_ s.seq (.pointer (some ⟨q s.seq, 0, none⟩)) (by unfold ptrs; rw [hs']; rfl)
          exact ⟨a, ha, hk⟩
    have := hp.length_eq
    simpa using this
  simp [Builtin.len_, run_underlying Tryz.underlying117, MapKept.run_getObj_map hb, goInt, Result.andThen, e]
end
/-- Add: the states then, before any goes. -/
def addT (m : Tr) (ds : List Dl) : Tr := ⟨setOn m.L m.now m.next ++ [⟨m.next, m.now, -1, ds⟩], m.next, m.next + 1, m.most⟩
theorem on_snoc {L : List St} {x y : Int} (hxy : x ≠ y) (fr on : Int) (ds : List Dl) (z : Int) : setOn (L ++ [⟨y, fr, on, ds⟩]) x z = setOn L x z ++ [⟨y, fr, on, ds⟩] := by
  simp [setOn, Ne.symm hxy]
section
variable {Q : Nat → Prop} {B C t : Nat} {m : Tr} {w : World}
set_option maxHeartbeats 16000000 in
theorem add_few (h : Tw Q B C t m w) (F : Fam m.L m.next) (hn : m.next ≤ 10000) (hsq : (m.L.map St.seq).Nodup) (hw : look m.L m.now ≠ none) (hm : (m.L.length : Int) + 1 ≤ m.most) (hB : B ≤ w.heap.size) (hQ : ∀ j, w.heap.size ≤ j → Q j)
    {P : Nat → Prop} {X : Xl} {D : Nat} (ok : Okx D X) {v : Value} {ds : List Dl} (hd : Dr P X v ds w) {N : Nat} (hf : Few N ds) (hN : N ≤ 2513169434916) :
    Calls Tryz.prog 49 #[.pointer (some ⟨t, 0, none⟩), v] w fun e w' => e = .returned (.int .i64 m.next) ∧ Tw Q B w'.heap.size t (addT m ds) w' ∧ Ff TP B w w' := by
  have hxn : look m.L m.next = none := by
    cases e : look m.L m.next with
    | none => rfl
    | some s => have := F.fr _ _ e; omega
  have hnw := F.rg (by omega) hw
  have hlt : m.now < m.next ∧ 0 ≤ m.next := by
    obtain ⟨s, hs⟩ := Option.ne_none_iff_exists'.1 hw
    have := F.fr _ _ hs; omega
  obtain ⟨b, q, h⟩ := h
  have c0 := h.box.at (j := 0) rfl
  have c1 := h.box.at (j := 1) rfl
  have c2 := h.box.at (j := 2) rfl
  have HC : Hid (∀ z, Kp w z → Calls Tryz.prog 90 #[v] z fun e w' => ∃ v', e = .returned v' ∧ Dx (RQ Q) 0 v' ds w' ∧ Kp w w') := fun z k => (copies_any ok (hd.kp ok k) hf hN).mono (by rintro e w' ⟨v', rfl, q1, q2⟩; exact ⟨v', rfl, q1.rq fun j hj => hQ j (Nat.le_trans k.size hj), kp_trans k q2⟩)
  obtain ⟨a, n, c, rfl⟩ : ∃ a n c, v = .slice a n c := by obtain ⟨a, c, rfl, _⟩ := hd.form; exact ⟨a, _, c, rfl⟩
  -- what the map's store comes to
  have HS : Hid (∀ (v' : Value) (w3 : World), Dx (RQ Q) 0 v' ds w3 → Kp w w3 → ∃ w5 q', (Instr.mapUpdate 117 (.map (some b)) (.int .i64 m.next) (.pointer (some ⟨w3.heap.size, 0, none⟩))).run Tryz.prog (w3.alloc (.cells #[.int .i64 m.now, .int .i64 (-1), v'] 123)) = .ok () w5 ∧ Tb Q B w5.heap.size t b q' { m with L := m.L ++ [⟨m.next, m.now, -1, ds⟩] } w5 ∧ Ff TP B w w5) := fun v' w3 d3 k3 => by
    have h4 := (h.kp k3).kp (kp_alloc w3 (.cells #[.int .i64 m.now, .int .i64 (-1), v'] 123))
    obtain ⟨w5, r1, r2, r3, _, _⟩ := h4.add (x := m.next) (fr := m.now) (by omega) (by omega) hxn (d3.kp (okRQ _ 0) (kp_alloc _ _)) hw (Lc.new w3 [.int .i64 m.now, .int .i64 (-1), v'] _) (Nat.le_trans hB k3.size) (fun y hy e => by
      obtain ⟨s, hs⟩ := Option.ne_none_iff_exists'.1 hy
      obtain ⟨_, u, hu, _⟩ := (h.kp k3).st y s hs
      have := hu.lt; omega)
    exact ⟨w5, _, r1, r2, (Ff.kp (kp_trans k3 (kp_alloc _ _))).trans r3⟩
  have HH : Hid (Fam m.L m.next ∧ (m.L.map St.seq).Nodup ∧ look m.L m.now ≠ none ∧ (m.L.length : Int) + 1 ≤ m.most ∧ look m.L m.next = none ∧ Lc 119 t [.map (some b), .int .i64 m.now, .int .i64 m.next, .int .i64 m.most] w) := ⟨F, hsq, hw, hm, hxn, h.box⟩
  clear h F hsq hw hm hxn hd hf ok
  go_enter Tryz.func49, Tryz.ntmps49
  go_upto_region 1 with fail
  refine wp_region_noPanic ?_
  refine wp_region_held_drew (S := fun z => z.cell? ⟨t, 0, none⟩ = some (.map (some b)) ∧ z.cell? ⟨t, 1, none⟩ = some (.int .i64 m.now) ∧ z.cell? ⟨t, 2, none⟩ = some (.int .i64 m.next)) (by kernel_rfl) (⟨c0, c1, c2⟩) (fun hHeld => ?_)
  refine takeAt 0 (some 5) ?_ rfl rfl (by kernel_rfl) (by kernel_rfl) (by kernel_rfl) (fun _ _ _ h => h) (Or.inl ⟨by rfl, ?_⟩) hHeld ?_
  rotate_left
  · intro w hSw
    go_simp <;> with_reducible rfl
  try simp only [Act.put, List.setIfInBounds_toArray, List.set_cons_zero, List.set_cons_succ]
  refine takeAt 1 (some 6) ?_ rfl rfl (by kernel_rfl) (by kernel_rfl) (by kernel_rfl) (fun _ _ _ h => h) (Or.inl ⟨by rfl, ?_⟩) hHeld ?_
  rotate_left
  · intro w hSw
    go_simp <;> with_reducible rfl
  try simp only [Act.put, List.setIfInBounds_toArray, List.set_cons_zero, List.set_cons_succ]
  refine takeAt 2 (some 7) ?_ rfl rfl (by kernel_rfl) (by kernel_rfl) (by kernel_rfl) (fun _ _ _ h => h) (Or.inl ⟨by rfl, ?_⟩) hHeld ?_
  rotate_left
  · intro w hSw
    go_simp <;> with_reducible rfl
  try simp only [Act.put, List.setIfInBounds_toArray, List.set_cons_zero, List.set_cons_succ]
  refine takeAt 3 (some 8) ?_ rfl rfl (by kernel_rfl) (by kernel_rfl) (by kernel_rfl) (fun _ _ _ h => h) (Or.inl ⟨by rfl, ?_⟩) hHeld ?_
  rotate_left
  · intro w hSw
    go_simp <;> with_reducible rfl
  try simp only [Act.put, List.setIfInBounds_toArray, List.set_cons_zero, List.set_cons_succ]
  refine takeAt 4 (some 9) ?_ rfl rfl (by kernel_rfl) (by kernel_rfl) (by kernel_rfl) (fun _ _ _ h => h) (Or.inl ⟨by rfl, ?_⟩) hHeld ?_
  rotate_left
  · intro w hSw
    go_simp <;> with_reducible rfl
  try simp only [Act.put, List.setIfInBounds_toArray, List.set_cons_zero, List.set_cons_succ]
  refine takeAt 5 (some 10) ?_ rfl rfl (by kernel_rfl) (by kernel_rfl) (by kernel_rfl) (fun _ _ _ h => h) (Or.inl ⟨by rfl, ?_⟩) hHeld ?_
  rotate_left
  · intro w hSw
    go_simp <;> with_reducible rfl
  try simp only [Act.put, List.setIfInBounds_toArray, List.set_cons_zero, List.set_cons_succ]
  refine takeAt 6 (some 11) ?_ rfl rfl (by kernel_rfl) (by kernel_rfl) (by kernel_rfl) (fun _ _ _ h => h) (Or.inl ⟨by rfl, ?_⟩) hHeld ?_
  rotate_left
  · intro w hSw
    go_simp <;> with_reducible rfl
  try simp only [Act.put, List.setIfInBounds_toArray, List.set_cons_zero, List.set_cons_succ]
  refine takeAt 7 (some 12) ?_ rfl rfl (by kernel_rfl) (by kernel_rfl) (by kernel_rfl) (fun _ _ _ h => h) (Or.inl ⟨by rfl, ?_⟩) hHeld ?_
  rotate_left
  · intro w hSw
    go_simp <;> with_reducible rfl
  try simp only [Act.put, List.setIfInBounds_toArray, List.set_cons_zero, List.set_cons_succ]
  refine takeAt 8 (some 13) ?_ rfl rfl (by kernel_rfl) (by kernel_rfl) (by kernel_rfl) (fun _ _ _ h => h) (Or.inl ⟨by rfl, ?_⟩) hHeld ?_
  rotate_left
  · intro w hSw
    go_simp <;> with_reducible rfl
  try simp only [Act.put, List.setIfInBounds_toArray, List.set_cons_zero, List.set_cons_succ]
  refine takeAt 9 (some 14) ?_ rfl rfl (by kernel_rfl) (by kernel_rfl) (by kernel_rfl) (fun _ _ _ h => h) (Or.inl ⟨by rfl, ?_⟩) hHeld ?_
  rotate_left
  · intro w hSw
    go_simp <;> with_reducible rfl
  try simp only [Act.put, List.setIfInBounds_toArray, List.set_cons_zero, List.set_cons_succ]
  refine takeAt 10 (some 15) ?_ rfl rfl (by kernel_rfl) (by kernel_rfl) (by kernel_rfl) (fun _ _ _ h => h) (Or.inl ⟨by rfl, ?_⟩) hHeld ?_
  rotate_left
  · intro w hSw
    go_simp <;> with_reducible rfl
  try simp only [Act.put, List.setIfInBounds_toArray, List.set_cons_zero, List.set_cons_succ]
  refine takeAt 11 (some 16) ?_ rfl rfl (by kernel_rfl) (by kernel_rfl) (by kernel_rfl) (fun _ _ _ h => h) (Or.inl ⟨by rfl, ?_⟩) hHeld ?_
  rotate_left
  · intro w hSw
    go_simp <;> with_reducible rfl
  try simp only [Act.put, List.setIfInBounds_toArray, List.set_cons_zero, List.set_cons_succ]
  refine takeAt 12 (some 17) ?_ rfl rfl (by kernel_rfl) (by kernel_rfl) (by kernel_rfl) (fun _ _ _ h => h) (Or.inl ⟨by rfl, ?_⟩) hHeld ?_
  rotate_left
  · intro w hSw
    go_simp <;> with_reducible rfl
  try simp only [Act.put, List.setIfInBounds_toArray, List.set_cons_zero, List.set_cons_succ]
  refine callAt 13 18 90 (vals := #[.slice a n c]) (by kernel_rfl) rfl rfl rfl rfl (by simp [Act.eval]) Tryz.func90 (by kernel_rfl) (by kernel_rfl) ?_
  refine Calls.mono (HC.out _ (by first | exact Below.refl _ _ | exact kp_drew _)) ?_
  rintro e w3 ⟨v', rfl, d3, k3⟩
  obtain ⟨w5, q', hr5, t5, f5⟩ := HS.out v' w3 d3 k3
  obtain ⟨a', n', c', rfl⟩ : ∃ a' n' c', v' = .slice a' n' c' := by obtain ⟨a', c', rfl, _⟩ := d3.form; exact ⟨a', _, c', rfl⟩
  have H5 : Hid (Tb Q B w5.heap.size t b q' { m with L := m.L ++ [⟨m.next, m.now, -1, ds⟩] } w5 ∧ Ff TP B w w5) := ⟨t5, f5⟩
  have K3 : Hid (Kp w w3) := k3
  clear d3 k3 t5 f5 HC HS
  refine ⟨_, rfl, ⟨kp_cell K3.out c0, kp_cell K3.out c1, kp_cell K3.out c2⟩, fun hHeld => ?_⟩
  try simp only [Act.put, List.setIfInBounds_toArray, List.set_cons_zero, List.set_cons_succ]
  refine takeAt 14 (some 19) ?_ rfl rfl (by kernel_rfl) (by kernel_rfl) (by kernel_rfl) (fun _ _ _ h => h) (Or.inl ⟨by rfl, ?_⟩) hHeld ?_
  rotate_left
  · intro w hSw
    go_simp <;> with_reducible rfl
  try simp only [Act.put, List.setIfInBounds_toArray, List.set_cons_zero, List.set_cons_succ]
  refine wpAnyH_ready (rs := [15]) (by kernel_rfl) (by simp) ?_
  refine AllReadyH.cons rfl (fun K hK => ?_) AllReadyH.nil
  go_simp
  refine hK.out _ _ (⟨kp_cell (kp_alloc _ _) hHeld.1, kp_cell (kp_alloc _ _) hHeld.2.1, kp_cell (kp_alloc _ _) hHeld.2.2⟩) (fun hHeld => ?_)
  clear hK K
  try simp only [Act.put, List.setIfInBounds_toArray, List.set_cons_zero, List.set_cons_succ]
  refine wpAnyH_ready (rs := [16]) (by kernel_rfl) (by simp) ?_
  refine AllReadyH.cons rfl (fun K hK => ?_) AllReadyH.nil
  go_simp
  refine hK.out _ _ (⟨H5.out.1.box.at (j := 0) rfl, H5.out.1.box.at (j := 1) rfl, H5.out.1.box.at (j := 2) rfl⟩) (fun hHeld => ?_)
  clear hK K
  try simp only [Act.put, List.setIfInBounds_toArray, List.set_cons_zero, List.set_cons_succ]
  clear hr5 c0 c1 c2
  refine wpAnyH_done (by kernel_rfl) ?_ _
  refine NoPanic.normal ?_
  go_upto_region 2 with fail
  have f2 : Hid (look (m.L ++ [⟨m.next, m.now, -1, ds⟩]) m.now ≠ none ∧ m.now ≠ m.next) := ⟨by rw [look_snoc HH.out.2.2.2.2.1, if_neg (by omega)]; exact HH.out.2.2.1, by omega⟩
  obtain ⟨s0, hs0⟩ := Option.ne_none_iff_exists'.1 f2.out.1
  have c0 := H5.out.1.box.at (j := 0) rfl
  have c1 := H5.out.1.box.at (j := 1) rfl
  have c2 := H5.out.1.box.at (j := 2) rfl
  have hlk := H5.out.1.get (by omega) (by omega) hs0
  have hl1 := hlk w5 (Below.refl _ _)
  have hl2 := hlk w5.drew (kp_drew _)
  obtain ⟨_, u0, hu0, _⟩ := H5.out.1.st _ _ hs0
  have g1 := hu0.fz 1
  have g0 := hu0.at (j := 1) rfl
  obtain ⟨W6, hW6⟩ : ∃ W6, (w5.setCell ⟨q' m.now, 1, none⟩ (.int .i64 m.next)).drew = W6 := ⟨_, rfl⟩
  have H6 : Hid (Tb Q B w5.heap.size t b q' { m with L := setOn m.L m.now m.next ++ [⟨m.next, m.now, -1, ds⟩] } W6 ∧ Ff TP B w W6) := by
    obtain ⟨r1, r2⟩ := H5.out.1.on f2.out.1 m.next
    rw [← hW6]
    refine ⟨?_, (H5.out.2.trans r2).trans (Ff.kp (kp_drew _))⟩
    have := r1.kp (kp_drew _)
    rw [on_snoc f2.out.2] at this
    exact this
  have HW6 : Hid (_ = W6) := hW6
  clear hlk hs0 hu0 hW6
  go_region
  rw [HW6.out]
  clear HW6 c0 c1 c2 hl1 hl2 g0 g1
  have c2 := H6.out.1.box.at (j := 2) rfl
  have g1 := H6.out.1.box.fz 1
  have c1 := H6.out.1.box.at (j := 1) rfl
  have g2 := H6.out.1.box.fz 2
  have H7 : Hid (Tw Q B ((W6.setCell ⟨t, 1, none⟩ (.int .i64 m.next)).setCell ⟨t, 2, none⟩ (.int .i64 (m.next + 1))).heap.size t (addT m ds) ((W6.setCell ⟨t, 1, none⟩ (.int .i64 m.next)).setCell ⟨t, 2, none⟩ (.int .i64 (m.next + 1))) ∧ Ff TP B w ((W6.setCell ⟨t, 1, none⟩ (.int .i64 m.next)).setCell ⟨t, 2, none⟩ (.int .i64 (m.next + 1)))) := by
    obtain ⟨r1, r2⟩ := H6.out.1.now m.next
    obtain ⟨r3, r4⟩ := r1.nxt (m.next + 1)
    exact ⟨Tw.sized ⟨b, q', r3⟩, (H6.out.2.trans r2).trans r4⟩
  go_wp2_with fail
  generalize hW7 : (W6.setCell ⟨t, 1, none⟩ (.int .i64 m.next)).setCell ⟨t, 2, none⟩ (.int .i64 (m.next + 1)) = W7 at H7 ⊢
  have HN : Hid (((addT m ds).L.map St.seq).Nodup ∧ ((addT m ds).L.length : Int) ≤ m.most) := by
    constructor
    · show ((setOn m.L m.now m.next ++ [_]).map St.seq).Nodup
      rw [List.map_append, setOn_seq, List.map_singleton, List.nodup_append]
      refine ⟨HH.out.2.1, by simp, fun x hx y hy => ?_⟩
      simp only [List.mem_singleton] at hy
      subst hy
      obtain ⟨s, hs, rfl⟩ := List.mem_map.1 hx
      intro e
      have := List.find?_eq_none.1 HH.out.2.2.2.2.1 s hs
      simp [e] at this
    · show ((setOn m.L m.now m.next ++ [_]).length : Int) ≤ _
      rw [List.length_append, setOn_len, List.length_singleton]
      have := HH.out.2.2.2.1; omega
  obtain ⟨b7, q7, t7⟩ := H7.out.1
  have c0 := t7.box.at (j := 0) rfl
  have c1' : W7.cell? ⟨t, 1, none⟩ = some (.int .i64 m.next) := t7.box.at (j := 1) rfl
  have c3 : W7.cell? ⟨t, 3, none⟩ = some (.int .i64 m.most) := t7.box.at (j := 3) rfl
  have hln := fun ty k => t7.len HN.out.1 ty (W7.drewN k) (kp_drewN _ k)
  have d1 : decide (((addT m ds).L.length : Int) > m.most) = false := decide_eq_false (by have := HN.out.2; omega)
  have d2 : decide (m.most < ((addT m ds).L.length : Int)) = false := decide_eq_false (by have := HN.out.2; omega)
  generalize (addT m ds).L.length = K7 at hln d1 d2
  clear hW7 t7 c1 c2 g1 g2
  go_loopw [] (fun wr => wr = W7) (fun _ => 0)
  case atStart => rfl
  case round =>
    subst hrel
    go_wp2_with fail
    go_quiet (fail)
    go_wp2_with fail
    go_ret
    exact ⟨rfl, (Tw.kp H7.out.1 (kp_drewN _ _)).sized, H7.out.2.trans (Ff.kp (kp_drewN _ _))⟩
end
end Go.Proofs.YtaefeakmlgjonaaGreat
/- The keys of a map, one by one; gathered in a list. -/
namespace Go.Proofs.YtaefeakmlgjonaaGreat
open Go.ChangeShapes Go.WideShapes Go.ChangeAt Go.RowKit Go.Maps Go.MapKept Go.Shelf
set_option linter.unusedVariables false
set_option linter.unusedSimpArgs false
attribute [local go_sem] Oper.semAt_some
section
variable {F : Fence} {n : Nat} {b r c : Nat} {m : Int → Option Value} {left : Int → Bool} {w : World} {ops : Array Oper} {rest : List Oper} {o : Oper} {a : Act} {Q : Exit → Act → World → Prop}
theorem wpli_range (hg : o.guard = none) (x : Operand) (T E : TypeId) (hop : o.op = Op.range T x) (ht : Tryz.prog.underlying T = some (.map 3 E)) (hm : a.eval x = .map (some b)) (h : Mp b m w)
    (hK : ∀ w' c, Rgg b w.heap.size m (fun x => (m x).isSome) c w' → w.grownBy w' none → w'.heap.size = w.heap.size + 1 → wpListIn F n Tryz.prog ops Q rest (a.put o.dst (.pointer (some ⟨w.heap.size, 0, none⟩))) w') :
    wpListIn F n Tryz.prog ops Q (o :: rest) a w := by
  refine wpListIn_plain hg fun K' hK' => ?_
  obtain ⟨w', c, hrun, r1, r2, r3⟩ := h.ranged ht
  unfold Oper.wpIn
  refine ⟨by simp [Oper.about, hop], ?_⟩
  rw [Oper.semAt_plain F _ _ (by rw [hop]; intro c hc'; cases hc')]
  simp [execOp, hop, hm, hrun, Result.andThen]
  exact hK' _ _ (hK w' c r1 ⟨r2.os, r2.tape, r2.output, r2.size, fun i hi _ => r2.block i hi⟩ r3)
theorem wpli_next (hg : o.guard = none) (x : Operand) (hop : o.op = Op.next x false) (hm : a.eval x = .pointer (some ⟨r, 0, none⟩)) (h : Rgg b r m left c w)
    (h0 : (∀ y, left y = false) → wpListIn F n Tryz.prog ops Q rest (a.put o.dst (.tuple #[.bool false])) w)
    (h1 : ∀ y v w' c', -9223372036854775808 ≤ y → y < 9223372036854775808 → left y = true → m y = some v → Rgg b r m (fun z => left z && !decide (z = y)) c' w' → c' < c → w.grownBy w' (some r) → w'.heap.size = w.heap.size →
      (Instr.entry (.pointer (some ⟨r, 0, none⟩))).run Tryz.prog w' = .ok (.tuple #[.int .i64 y, v]) w' → wpListIn F n Tryz.prog ops Q rest (a.put o.dst (.tuple #[.bool true, .int .i64 y, v])) w') :
    wpListIn F n Tryz.prog ops Q (o :: rest) a w := by
  refine wpListIn_plain hg fun K' hK' => ?_
  unfold Oper.wpIn
  refine ⟨by simp [Oper.about, hop], ?_⟩
  rw [Oper.semAt_plain F _ _ (by rw [hop]; intro c hc'; cases hc')]
  rcases h.next o.type with ⟨h2, hrun⟩ | ⟨y, v, w', c', q1, q2, q3, q4, hrun, q5, q6, q7, q8, q9⟩
  · simp [execOp, hop, hm, hrun, Result.andThen]
    exact hK' _ _ (h0 h2)
  · simp [execOp, hop, hm, hrun, Result.andThen]
    exact hK' _ _ (h1 y v w' c' q1 q2 q3 q4 q5 q6 ⟨q7.os, q7.tape, q7.output, q7.size, fun i hi hne => q7.block i hi fun e => hne (by unfold On at e; rw [e])⟩ q8 q9)
end
/-- Keys that have come: each once, all but those that are left. -/
def Cld (f : Int → Option Value) (left : Int → Bool) (ss : List Int) : Prop := ss.Nodup ∧ ∀ x, x ∈ ss ↔ (f x ≠ none ∧ left x = false)
/-- All keys, each once. -/
def Kys (f : Int → Option Value) (ss : List Int) : Prop := ss.Nodup ∧ ∀ x, x ∈ ss ↔ f x ≠ none
section
variable {b r c : Nat} {f : Int → Option Value} {left : Int → Bool} {w w1 : World} {ss : List Int}
theorem Cld.start (f : Int → Option Value) : Cld f (fun x => (f x).isSome) [] := by
  refine ⟨List.nodup_nil, fun x => ?_⟩
  cases q : f x <;> simp [q]
theorem Cld.step (h : Cld f left ss) {y : Int} (hy : left y = true) (hf : f y ≠ none) : Cld f (fun z => left z && !decide (z = y)) (ss ++ [y]) := by
  refine ⟨List.nodup_append.2 ⟨h.1, by simp, fun a ha b hb => ?_⟩, fun x => ?_⟩
  · rw [List.mem_singleton] at hb; subst hb
    rintro rfl
    rw [((h.2 a).1 ha).2] at hy; cases hy
  · rw [List.mem_append, List.mem_singleton, h.2 x]
    by_cases q : x = y
    · subst q; simp [hf]
    · simp [q]
theorem Cld.end_ (h : Cld f left ss) (hl : ∀ x, left x = false) : Kys f ss := ⟨h.1, fun x => by rw [h.2 x]; simp [hl x]⟩
theorem nodup_len : ∀ (k : Nat) (lo : Int) (l : List Int), l.Nodup → (∀ x ∈ l, lo ≤ x ∧ x < lo + k) → l.length ≤ k := by
  intro k
  induction k with
  | zero => intro lo l _ h; cases l with
    | nil => simp
    | cons x r => have := h x (by simp); omega
  | succ k ih =>
    intro lo l hn h
    have h1 := ih (lo + 1) (l.filter fun x => decide (x ≠ lo)) (hn.filter _) (fun x hx => by
      obtain ⟨m1, m2⟩ := List.mem_filter.1 hx
      have := h x m1
      simp only [decide_eq_true_eq] at m2
      omega)
    have h2 : l.length ≤ (l.filter fun x => decide (x ≠ lo)).length + 1 := by
      clear h1 h ih
      induction l with
      | nil => simp
      | cons y t iht =>
        obtain ⟨n1, n2⟩ := List.nodup_cons.1 hn
        by_cases q : y = lo
        · subst q
          have : t.filter (fun x => decide (x ≠ y)) = t := List.filter_eq_self.2 fun x hx => by
            simp only [decide_eq_true_eq]; rintro rfl; exact n1 hx
          rw [List.filter_cons_of_neg (by simp), this]; simp
        · rw [List.filter_cons_of_pos (by simpa using q)]
          have := iht n2
          simp only [List.length_cons]; omega
    omega
theorem Rgg.of_walks (h : Rgg b r f left c w) (hk : KeepsWalks w w1) : Rgg b r f left c w1 := by
  obtain ⟨es, cl, s, q, c0, h1, h2, h3, h4, rest⟩ := h
  exact ⟨es, cl, s, q, c0, hk.same b _ h1 rfl, h2, h3, hk.same r _ h4 rfl, rest⟩
theorem Rgg.iter_walk (h : Rgg b r f left c w) : ∃ o : Obj, w.heap[r]? = some o ∧ o.isWalk = true := by
  obtain ⟨es, cl, s, q, c0, h1, h2, h3, h4, rest⟩ := h
  exact ⟨_, h4, rfl⟩
end
set_option maxHeartbeats 1000000 in
theorem keys_any (b : Nat) (w : World) : Calls Tryz.prog 121 #[.map (some b)] w fun e w' => e = .returned (.func (.func 154) #[] #[.pointer (some ⟨w.heap.size, 0, none⟩)]) ∧ w' = w.alloc (.cells #[.map (some b)] 117) := by
  have hmf : ∀ (fn : Fn) (first cap : Array Value) (w : World), (Instr.makeFunc fn first cap).run Tryz.prog w = .ok (.func fn first cap) w := fun _ _ _ _ => rfl
  go_enter Tryz.func121, Tryz.ntmps121
  go_wp2
  go_ret
  exact ⟨rfl, rfl⟩
set_option maxRecDepth 100000 in
set_option maxHeartbeats 2000000 in
theorem keys1_in (F : Fence) (n : Nat) (hF : F.fn 154) (hro : F.round = none) (hn : 1 ≤ n) (l Bm b N : Nat) (f : Int → Option Value) (hN : ∀ ss x, (ss ++ [x]).Nodup → (∀ y ∈ ss ++ [x], f y ≠ none) → ss.length < N) (J Jx : List Int → World → Prop)
    (hY : ∀ pre x W, J pre W → pre.length < N → YieldAt F (n - 1) Tryz.prog l #[.int .i64 x] W fun e W' => (e = .returned (.bool true) ∧ J (pre ++ [x]) W' ∧ KeepsWalks W W') ∨ (e = .returned (.bool false) ∧ Jx (pre ++ [x]) W'))
    (W : World) (hJ : AbidesFrom W.heap.size J) (hm : W.cell? ⟨Bm, 0, none⟩ = some (.map (some b))) (hown : Mp b f W) (h0 : J [] W) :
    CallsIn F n Tryz.prog 154 #[.func (.yield l) #[] #[], .pointer (some ⟨Bm, 0, none⟩)] W fun e W' => (∃ v, e = .returned v) ∧ ((∃ ss, Kys f ss ∧ J ss W') ∨ (∃ pre, True ∧ Jx pre W')) := by
  refine callsIn_of_wp Tryz.func154 rfl hF ?_ hro
  simp only [Tryz.ntmps154, List.size_toArray, List.length_cons, List.length_nil, Nat.reduceAdd, Nat.reduceSub, Array.replicate_succ, Array.replicate_zero, List.push_toArray, List.append_toArray, List.nil_append, List.cons_append]
  have HN : Hid _ := hN
  have HY : Hid _ := hY
  have HJ : Hid (AbidesFrom W.heap.size J) := hJ
  clear hN hY hJ
  gi_wp2_with (first | (gi_at_range; refine wpli_range rfl _ 117 124 rfl Tryz.underlying117 rfl hown ?_; intro w0 c0 hrg0 hg0 hs0) | gi_in)
  go_frame
  have HS : Hid (J [] w0) := HJ.out [] W w0 none h0 hg0 (fun r e => by cases e)
  clear h0 hg0 hs0 hm hown
  gi_loopw [3] (fun _ wr => ∃ (left : Int → Bool) (cnt : Nat) (ss : List Int), Hid (Rgg b W.heap.size f left cnt wr ∧ Cld f left ss ∧ J ss wr)) (fun _ wr => wr.rangeLeft b W.heap.size)
  case atStart => exact ⟨_, _, [], hrg0, Cld.start f, HS.out⟩
  case round =>
    obtain ⟨left, cnt, ss, HQ⟩ := hrel
    clear hrg0 HS
    have hrg := HQ.out.1
    gi_wp2_with (first | (gi_at_next; refine wpli_next rfl _ rfl rfl hrg ?_ ?_) | gi_in)
    · intro hl
      have HE : Hid (∃ ss, Kys f ss ∧ J ss wr) := ⟨ss, HQ.out.2.1.end_ hl, HQ.out.2.2⟩
      clear hl hrg HQ
      gi_wp2
      go_end0
      exact ⟨⟨_, rfl⟩, .inl HE.out⟩
    · intro y v w2 c2 y0 y1 hly hy hr2 hlt2 hg2 hs2 hen
      have hC := HQ.out.2.1.step hly (by rw [hy]; simp)
      have hlen : ss.length < N := HN.out ss y hC.1 fun z hz => ((hC.2 z).1 hz).1
      have hJ2 : J ss w2 := HJ.out ss wr w2 (some W.heap.size) HQ.out.2.2 hg2 (fun r e => by cases e; exact ⟨Nat.le_refl _, hrg.iter_walk⟩)
      obtain ⟨fn, tmps, assign, body, hyl, hR⟩ := HY.out ss y w2 hJ2 hlen
      have HR : Hid (wr.rangeLeft b W.heap.size = cnt) := hrg.left_eq
      have HC : Hid _ := hC
      have HL : Hid (c2 < cnt) := hlt2
      have HR2 : Hid (Rgg b W.heap.size f (fun z => left z && !decide (z = y)) c2 w2) := hr2
      clear hs2 hg2 hly hy hrg HQ hJ2 hlen hC hlt2 hr2
      gi_wp2
      refine hR.mono ?_
      rintro e W3 (⟨rfl, hJ3, hk3⟩ | ⟨rfl, hJx3⟩)
      · have HX : Hid (Rgg b W.heap.size f (fun z => left z && !decide (z = y)) c2 W3 ∧ Cld f (fun z => left z && !decide (z = y)) (ss ++ [y]) ∧ J (ss ++ [y]) W3) := ⟨HR2.out.of_walks hk3, HC.out, hJ3⟩
        clear hJ3 hk3 HR2 HC hen
        gi_wp2
        go_roundw
        case rel => exact ⟨_, c2, _, HX.out⟩
        case measure => rw [HX.out.1.left_eq, HR.out]; exact HL.out
      · clear HR2 HC hen HL HR
        gi_wp2
        refine bodyPost_ret (results_none rfl _ _ _) rfl ?_
        exact ⟨⟨_, rfl⟩, .inr ⟨_, trivial, hJx3⟩⟩
theorem keys_seq (F : Fence) (n : Nat) (hF : F.fn 154) (hro : F.round = none) (hn : 1 ≤ n) (Bm b N : Nat) (f : Int → Option Value) (hN : ∀ ss x, (ss ++ [x]).Nodup → (∀ y ∈ ss ++ [x], f y ≠ none) → ss.length < N) {W3 : World} (hB : Lc 117 Bm [.map (some b)] W3) (hm : Mp b f W3) :
    SeqStopsK F n Tryz.prog 154 #[.pointer (some ⟨Bm, 0, none⟩)] (fun x : Int => #[.int .i64 x]) KeepsWalks (fun ss => Kys f ss) (fun _ => True) N W3 := by
  intro l J Jx W hW hJ _ hY h0
  exact keys1_in F n hF hro hn l Bm b N f hN J Jx hY W hJ ((hB.kp hW).at (j := 0) rfl) (hm.kp hW) h0
end Go.Proofs.YtaefeakmlgjonaaGreat
/- Keys are gathered and sorted: AppendSeq, Collect, Sorted. -/
namespace Go.Proofs.YtaefeakmlgjonaaGreat
open Go.ChangeShapes Go.WideShapes Go.ChangeAt Go.RowKit Go.Maps Go.MapKept Go.Shelf
set_option linter.unusedVariables false
set_option linter.unusedSimpArgs false
attribute [local go_sem] Oper.semAt_some
theorem infoInt : (Tryz.prog.info? 3).map (fun i => (i.zero, i.size, i.bytes)) = some (some (.int .i64 0), 1, 8) := by kernel_rfl
/-- Numbers as they lie in memory. -/
def zcs (l : List Int) : List Value := l.map (Value.int .i64)
theorem zcs_len (l : List Int) : (zcs l).length = l.length := by simp [zcs]
theorem zcs_one (l : List Int) : ∀ u ∈ zcs l, u.oneCell' = true := fun u hu => by
  obtain ⟨b, _, rfl⟩ := List.mem_map.1 hu
  rfl
/-- What is gathered lies in box B. -/
structure Apd (w : World) (B : Nat) (pre : List Int) (v : Value) (W : World) : Prop where
  box : Lc 120 B [v] W
  row : W.ownsRow w.heap.size 3 1 v pre.length (zcs pre)
  kp : Kp w W
  ge : w.heap.size ≤ B
section
variable {w W W1 : World} {B : Nat} {pre : List Int} {v : Value}
theorem Apd.grown (h : Apd w B pre v W) {row : Option Nat} {B0 : Nat} (hg : W.grownBy W1 row) (hr : ∀ r, row = some r → B0 ≤ r ∧ ∃ o : Obj, W.heap[r]? = some o ∧ o.isCells = false) (hB : w.heap.size ≤ B0) : Apd w B pre v W1 := by
  have f : Fr (fun k => row = some k) W W1 := ⟨hg.os, hg.tape, hg.output, hg.size, fun k hk q => hg.block k hk fun e => q e.symm⟩
  have hn : ∀ k c e g, W.heap[k]? = some (.cells c e g) → ¬ row = some k := fun k c e g hk q => by
    obtain ⟨_, o, h1, h2⟩ := hr k q
    rw [hk] at h1; cases h1; cases h2
  refine ⟨h.box.fr f (hn B _ _ _ h.box), row_fr h.row f fun j hj q => ?_, h.kp.trans (f.below h.kp.size fun k hk q => by have := (hr k q).1; omega), h.ge⟩
  rcases h.row.2 with ⟨e, _⟩ | ⟨g, cap, cur, e, _, hgr, _⟩
  · rw [e] at hj; cases hj
  · rw [e] at hj; simp only [Value.ownBlock, Option.some.injEq] at hj
    subst hj; exact hn g _ _ _ hgr q
/-- One more. -/
theorem Apd.more (h : Apd w B pre v W) {w1 : World} {v' : Value} {x : Int} (ho : w1.ownsRow w.heap.size 3 1 v' (pre.length + 1) (zcs pre ++ [.int .i64 x])) (hg : (W.alloc (.cells #[.int .i64 x] 3)).grownBy w1 v.ownBlock) :
    (w1.cell? ⟨B, 0, none⟩ = some v ∧ w1.frozen? ⟨B, 0, none⟩ = false) ∧ Apd w B (pre ++ [x]) v' (w1.setCell ⟨B, 0, none⟩ v') ∧ KeepsWalks W (w1.setCell ⟨B, 0, none⟩ v') ∧ ∀ B0, KeepsFrom B0 W (w1.setCell ⟨B, 0, none⟩ v') := by
  have k := kp_alloc W (.cells #[.int .i64 x] 3)
  have hb0 := h.box.kp k
  have hr0 := row_kp h.row k
  have hb1 : Lc 120 B [v] w1 := hb0.heap (hg.block B hb0.lt fun e => row_ne hr0 hb0 (by decide) e.symm)
  have f0 : Fr (fun k => v.ownBlock = some k) W w1 := ⟨hg.os.trans k.os, hg.tape.trans k.tape, hg.output.trans k.output, Nat.le_trans k.size hg.size, fun j hj q => by
    rw [hg.block j (Nat.lt_of_lt_of_le hj k.size) fun e => q e.symm]; exact k.block j hj⟩
  have f1 : Fr (fun k => k = B ∨ v.ownBlock = some k) W (w1.setCell ⟨B, 0, none⟩ v') := (f0.mono fun k _ q => Or.inr q).trans (Fr.setCell (Or.inl rfl) w1)
  have hcells : ∀ k, (k = B ∨ v.ownBlock = some k) → ∃ c e g, W.heap[k]? = some (.cells c e g) := fun k hk => by
    rcases hk with rfl | hk
    · exact ⟨_, _, _, h.box⟩
    · rcases h.row.2 with ⟨q, _⟩ | ⟨g, cap, cur, rfl, _, hg, _⟩
      · rw [q] at hk; cases hk
      · simp only [Value.ownBlock, Option.some.injEq] at hk
        exact ⟨_, _, _, hk ▸ hg⟩
  have hsame : ∀ (k : Nat) (o : Obj), W.heap[k]? = some o → o.isCells = false → (w1.setCell ⟨B, 0, none⟩ v').heap[k]? = some o := fun k o hk ho => by
    rw [f1.block k (Array.getElem?_eq_some_iff.1 hk).1 fun q => ?_]
    · exact hk
    · obtain ⟨c, e, g, hc⟩ := hcells k q
      rw [hc] at hk; cases hk; cases ho
  refine ⟨⟨hb1.at rfl, hb1.fz _⟩, ⟨by simpa using hb1.set 0 v', ?_, h.kp.trans (f1.below h.kp.size fun k hk q => ?_), h.ge⟩, ⟨f1.size, fun k o hk ho => hsame k o hk (by cases o <;> first | rfl | cases ho)⟩, fun B0 => ⟨f1.size, fun k o _ hk ho => hsame k o hk ho⟩⟩
  · have e1 : (pre ++ [x]).length = pre.length + 1 := by simp
    have e2 : zcs (pre ++ [x]) = zcs pre ++ [.int .i64 x] := by simp [zcs]
    rw [e1, e2]
    exact row_fr ho (fr_set B 0 v' w1) fun j hj q => by
      unfold On at q
      subst q
      exact row_ne ho hb1 (by decide) hj
  · rcases q with rfl | q
    · have := h.ge; omega
    · have := (h.row.lt k q).1; omega
end
/-- A map has few keys. -/
def Kfew (f : Int → Option Value) : Prop := ∀ ss : List Int, ss.Nodup → (∀ y ∈ ss, f y ≠ none) → ss.length ≤ 250
set_option maxHeartbeats 4000000 in
set_option maxRecDepth 100000 in
theorem appendSeq_any {b Bm : Nat} {f : Int → Option Value} {w : World} (hB : Lc 117 Bm [.map (some b)] w) (hm : Mp b f w) (hd : Kfew f) :
    Calls Tryz.prog 181 #[.slice none 0 0, .func (.func 154) #[] #[.pointer (some ⟨Bm, 0, none⟩)]] w fun e w' => ∃ (v : Value) (ss : List Int), e = .returned v ∧ Kys f ss ∧ w'.ownsRow w.heap.size 3 1 v ss.length (zcs ss) ∧ Kp w w' := by
  obtain ⟨i9, hi9, z0, z1, z2⟩ := info_parts infoInt
  have hN : ∀ (ss : List Int) (x : Int), (ss ++ [x]).Nodup → (∀ y ∈ ss ++ [x], f y ≠ none) → ss.length < 250 := fun ss x h1 h2 => by
    have := hd (ss ++ [x]) h1 h2
    simp at this; omega
  refine (callsIn_wide (n := 4)).1 ?_
  refine callsIn_of_wp_marks Tryz.func181 rfl trivial ?_ rfl
  simp only [Tryz.ntmps181, List.size_toArray, List.length_cons, List.length_nil, Nat.reduceAdd, Nat.reduceSub, Array.replicate_succ, Array.replicate_zero, List.push_toArray, List.append_toArray, List.nil_append, List.cons_append]
  refine wpIn_wide.2 ?_
  have H0 : Hid (Apd w w.heap.size [] (.slice none 0 0) (w.alloc (.cells #[.slice none 0 0] 120))) := ⟨Lc.new w [.slice none 0 0] 120, World.ownsRow_nil _ _ _ _, kp_alloc _ _, Nat.le_refl _⟩
  have HSQ : Hid (SeqStopsK Fence.wide 3 Tryz.prog 154 #[.pointer (some ⟨Bm, 0, none⟩)] (fun x : Int => #[.int .i64 x]) KeepsWalks (fun ss => Kys f ss) (fun _ => True) 250 (w.alloc (.cells #[.slice none 0 0] 120))) := keys_seq Fence.wide 3 trivial rfl (by omega) Bm b 250 f hN (hB.kp (kp_alloc _ _)) (hm.kp (kp_alloc _ _))
  have hz := alloc_size w (.cells #[.slice none 0 0] 120)
  clear hB hm hN hd
  go_wp2_with fail
  generalize w.alloc (.cells #[.slice none 0 0] 120) = W0 at H0 HSQ hz ⊢
  refine (wpIn_wide (n := 4)).1 (wpIn_rangeFunc_ownG rfl (by omega) (gf := 154) (lb := #[.pointer (some ⟨Bm, 0, none⟩)]) rfl trivial (enters_of Tryz.func154 (by kernel_rfl) rfl)
    HSQ.out (fun h k => h.trans k) (fun W l o o' hl h1 h2 h3 => KeepsWalks.putObj o' h1 h3) (Below.refl _ _) (fun _ => rfl)
    (fun pre W => ∃ v, Apd w w.heap.size pre v W) (fun _ _ _ => False)
    (fun s A B row hs hg hr => by obtain ⟨v, hs⟩ := hs; exact ⟨v, hs.grown hg hr (by omega)⟩)
    (fun _ _ _ _ _ hs _ _ => hs) ⟨_, H0.out⟩
    (fun x => { tmps := #[.slice none 0 0, .func (.func 154) #[] #[.pointer (some ⟨Bm, 0, none⟩)], .pointer (some ⟨w.heap.size, 0, none⟩), undef, .slice none 0 0, .int .i64 x, .func (.func 154) #[] #[.pointer (some ⟨Bm, 0, none⟩)], .int .i64 x, undef, undef, undef, undef, undef], defers := [] }) ?assign ?body ?done ?stop)
  case assign =>
    intro l p W K hK
    gi_wp2
    exact hK
  case body =>
    rintro l pre x W ⟨v, hR⟩ hpre
    have c0 := hR.box.at (j := 0) rfl
    obtain ⟨va, vc, rfl, v1, v2⟩ := owns_form hR.row
    obtain ⟨K, hK⟩ : ∃ K, pre.length = K := ⟨_, rfl⟩
    have HM : Hid (∀ w1 v', w1.ownsRow w.heap.size 3 1 v' (K + 1) (zcs pre ++ [.int .i64 x]) → (W.alloc (.cells #[.int .i64 x] 3)).grownBy w1 (Value.slice va pre.length vc).ownBlock → (w1.cell? ⟨w.heap.size, 0, none⟩ = some (Value.slice va pre.length vc) ∧ w1.frozen? ⟨w.heap.size, 0, none⟩ = false) ∧ Hid (Apd w w.heap.size (pre ++ [x]) v' (w1.setCell ⟨w.heap.size, 0, none⟩ v') ∧ KeepsWalks W (w1.setCell ⟨w.heap.size, 0, none⟩ v') ∧ ∀ B0, KeepsFrom B0 W (w1.setCell ⟨w.heap.size, 0, none⟩ v'))) := by
      intro w1 v' q1 q2
      rw [← hK] at q1
      exact hR.more q1 q2
    have HR : Hid ((W.alloc (.cells #[.int .i64 x] 3)).ownsRow w.heap.size 3 1 (.slice va K vc) K (zcs pre)) := by rw [← hK]; exact row_kp hR.row (kp_alloc _ _)
    have HNN : Hid (w.heap.size ≤ (W.alloc (.cells #[.int .i64 x] 3)).heap.size) := by
      have := alloc_size W (.cells #[.int .i64 x] 3)
      have := hR.kp.size
      show _ ≤ _
      omega
    rw [hK] at c0 HM hpre
    clear hR hK v1 v2 HSQ H0
    gi_wp2_with (first | (gi_at_builtin; refine wpListIn_append_own _ rfl (.tmp 8) (.tmp 10) 120 rfl w.heap.size 3 i9 _ 1 8 Tryz.underlying120 hi9 z0 z1 z2 rfl (by decide) (.slice va K vc) K (zcs pre) rfl HR.out ⟨W.heap.size, 0, none⟩ 1 1 [.int .i64 x] rfl rfl (cell_one_new _ _ _) (by simp [Value.oneCell']) (by unfold maxLen; omega) (by omega) HNN.out ?_; intro v' w1 q1 q2 q3; clear q3; obtain ⟨⟨c1, f1⟩, HP⟩ := HM.out w1 v' q1 q2; obtain ⟨a', c', rfl, q4, q5⟩ := owns_form q1; clear q1 q2 q4 q5) | gi_in)
    gi_wp2
    exact ⟨HP.out.2.2 _, HP.out.2.1, _, HP.out.1⟩
  case done =>
    rintro D xs W hD hxs ⟨v, hR⟩ hK
    have c0 := hR.box.at (j := 0) rfl
    obtain ⟨va, vc, rfl, v1, v2⟩ := owns_form hR.row
    have HK : Hid (Kp w (W.putObj D (.deferred none)) ∧ (W.putObj D (.deferred none)).ownsRow w.heap.size 3 1 (.slice va xs.length vc) xs.length (zcs xs)) := by
      have hf : Fr (On D) W (W.putObj D (.deferred none)) := ⟨rfl, rfl, rfl, by simp, fun k _ hn => World.putObj_heap_other hn⟩
      refine ⟨hR.kp.trans (hf.below hR.kp.size fun k hk q => by unfold On at q; omega), row_fr hR.row hf fun j hj q => ?_⟩
      unfold On at q
      subst q
      rcases hR.row.2 with ⟨e, _⟩ | ⟨g, cap, cur, e, _, hg, _⟩
      · rw [e] at hj; cases hj
      · rw [e] at hj; simp only [Value.ownBlock, Option.some.injEq] at hj
        rw [hj, hK] at hg; cases hg
    have HX : Hid (Kys f xs) := hxs
    clear v1 v2 hR HSQ H0 hxs
    go_wp2_with fail
    refine ⟨by simp, .inl ⟨_, _, rfl, run_takeDeferred hK, ?_⟩⟩
    exact ⟨_, results_tmp rfl _ _ _, .slice va xs.length vc, xs, rfl, HX.out, HK.out.2, HK.out.1⟩
  case stop =>
    rintro D c pre W _ _ h _
    exact h.elim
set_option maxHeartbeats 1000000 in
theorem collect_any {b Bm : Nat} {f : Int → Option Value} {w : World} (hB : Lc 117 Bm [.map (some b)] w) (hm : Mp b f w) (hd : Kfew f) :
    Calls Tryz.prog 152 #[.func (.func 154) #[] #[.pointer (some ⟨Bm, 0, none⟩)]] w fun e w' => ∃ (v : Value) (ss : List Int), e = .returned v ∧ Kys f ss ∧ w'.ownsRow w.heap.size 3 1 v ss.length (zcs ss) ∧ Kp w w' := by
  have HC : Hid _ := appendSeq_any hB hm hd
  clear hB hm hd
  go_enter Tryz.func152, Tryz.ntmps152
  go_wp2_with fail
  refine Calls.mono HC.out ?_
  rintro e w2 ⟨v, ss, rfl, h1, h2, h3⟩
  have HH : Hid (Kys f ss ∧ w2.ownsRow w.heap.size 3 1 v ss.length (zcs ss) ∧ Kp w w2) := ⟨h1, h2, h3⟩
  clear HC h1 h2 h3
  go_wp2_with fail
  go_ret
  exact ⟨v, ss, rfl, HH.out⟩
end Go.Proofs.YtaefeakmlgjonaaGreat
