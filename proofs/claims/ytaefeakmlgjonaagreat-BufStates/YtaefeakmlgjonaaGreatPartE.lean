/- Texts that the proof of the law stands on: TA, HB, HC, HD, HE, HF, HG, HH, HI, HJ, HK, HL, HM, HN, BE. -/
import Derived.Test.YtaefeakmlgjonaaGreatPartD
import Derived.Test.YtaefeakmlgjonaaGreatPartC
import Derived.Test.YtaefeakmlgjonaaGreatPartB
import Derived.Lib.MinMax
/- Texts of states, and what changes make of them: pure. -/
namespace Go.Proofs.YtaefeakmlgjonaaGreat
set_option linter.unusedVariables false
set_option linter.unusedSimpArgs false
/-- What a change makes of lines, if it fits. -/
def app1 (l : List ByteArray) (d : Dl) : Option (List ByteArray) :=
  if 0 ≤ d.at_ ∧ d.at_.toNat ≤ l.length ∧ d.old.length ≤ l.length - d.at_.toNat ∧ (l.drop d.at_.toNat).take d.old.length = d.old then some (l.take d.at_.toNat ++ d.nw ++ l.drop (d.at_.toNat + d.old.length)) else none
def apps : List ByteArray → List Dl → Option (List ByteArray)
  | l, [] => some l
  | l, d :: ds => (app1 l d).bind fun l' => apps l' ds
theorem apps_app (l : List ByteArray) (a b : List Dl) : apps l (a ++ b) = (apps l a).bind fun l' => apps l' b := by
  induction a generalizing l with
  | nil => rfl
  | cons d a ih =>
    show (app1 l d).bind _ = ((app1 l d).bind _).bind _
    cases app1 l d with
    | none => rfl
    | some l' => exact ih l'
theorem app1_some {l r : List ByteArray} {d : Dl} (h1 : 0 ≤ d.at_) (h2 : d.at_.toNat ≤ l.length) (h3 : d.old.length ≤ l.length - d.at_.toNat) (h4 : (l.drop d.at_.toNat).take d.old.length = d.old) (h5 : l.take d.at_.toNat ++ d.nw ++ l.drop (d.at_.toNat + d.old.length) = r) : app1 l d = some r := by
  unfold app1; rw [if_pos ⟨h1, h2, h3, h4⟩, h5]
theorem app1_turn {l l' : List ByteArray} {d : Dl} (h : app1 l d = some l') : app1 l' (tn d) = some l := by
  unfold app1 at h
  split at h
  · rename_i c
    obtain ⟨c1, c2, c3, c4⟩ := c
    simp only [Option.some.injEq] at h
    subst h
    obtain ⟨a, ha⟩ : ∃ a, d.at_.toNat = a := ⟨_, rfl⟩
    rw [ha] at c2 c3 c4 ⊢
    have hl0 : (l.take a).length = a := by rw [List.length_take]; omega
    have e1 : (l.take a ++ d.nw ++ l.drop (a + d.old.length)).drop a = d.nw ++ l.drop (a + d.old.length) := by
      rw [List.append_assoc]; exact List.drop_left' hl0
    have e2 : (l.take a ++ d.nw ++ l.drop (a + d.old.length)).take a = l.take a := by rw [List.append_assoc]; exact List.take_left' hl0
    have e3 : (l.take a ++ d.nw ++ l.drop (a + d.old.length)).drop (a + d.nw.length) = l.drop (a + d.old.length) := List.drop_left' (by rw [List.length_append, hl0])
    have e4 : l.drop a = d.old ++ l.drop (a + d.old.length) := by
      have := List.take_append_drop d.old.length (l.drop a)
      rw [c4, List.drop_drop] at this
      exact this.symm
    have ea : (tn d).at_.toNat = a := ha
    have eo : (tn d).old = d.nw := rfl
    have en : (tn d).nw = d.old := rfl
    refine app1_some (by exact c1) ?_ ?_ ?_ ?_
    · rw [ea, List.length_append, List.length_append, hl0]; omega
    · rw [ea, eo, List.length_append, List.length_append, hl0]; omega
    · rw [ea, eo, e1]; exact List.take_left' rfl
    · rw [ea, eo, en, e2, e3, List.append_assoc, ← e4, List.take_append_drop]
  · cases h
theorem apps_turn {l l' : List ByteArray} {ds : List Dl} (h : apps l ds = some l') : apps l' (turnD ds) = some l := by
  induction ds generalizing l with
  | nil => cases h; rfl
  | cons d ds ih =>
    have h' : (app1 l d).bind (fun l' => apps l' ds) = some l' := h
    cases e : app1 l d with
    | none => rw [e] at h'; cases h'
    | some l2 =>
      rw [e] at h'
      have q := ih h'
      have e2 : turnD (d :: ds) = turnD ds ++ [tn d] := by simp [turnD]
      rw [e2, apps_app, q]
      show (app1 l2 (tn d)).bind _ = some l
      rw [app1_turn e]; rfl
/-- Each state's changes make its text of the one from which it came. -/
def TxI (L : List St) (T : Int → List ByteArray) : Prop := ∀ x s, look L x = some s → s.fr ≠ -1 → apps (T s.fr) s.by_ = some (T x)
section
variable {L L' : List St} {T : Int → List ByteArray} {x y next : Int} {l : List Int} {s : St} {m : Tr} {ds : List Dl}
theorem TxI.mono (h : TxI L T) (hm : ∀ x s', look L' x = some s' → s'.fr = -1 ∨ ∃ s, look L x = some s ∧ s'.fr = s.fr ∧ s'.by_ = s.by_) : TxI L' T := fun x s' hx hf => by
  rcases hm x s' hx with e | ⟨s, h1, h2, h3⟩
  · exact absurd e hf
  · rw [h2, h3]; exact h x s h1 (by rw [← h2]; exact hf)
theorem TxI.ups (h : TxI L T) (hu : Up L x l y) : apps (T x) (upsD L l) = some (T y) := by
  induction hu with
  | nil x => rfl
  | cons h1 h2 h3 ih =>
    rename_i x y s l
    show apps (T x) (turnD (byOf L x) ++ upsD L l) = _
    rw [byOf_some h1, apps_app, apps_turn (h x s h1 h2)]
    exact ih
theorem TxI.dn (h : TxI L T) (hu : Up L x l y) : apps (T y) (dnD L l) = some (T x) := by
  induction hu with
  | nil x => rfl
  | cons h1 h2 h3 ih =>
    rename_i x y s l
    rw [dnD_cons, byOf_some h1, apps_app, ih]
    exact h x s h1 h2
theorem TxI.went {a b top : Int} {l1 l2 : List Int} (h : TxI L T) (hm : Meet L a b top l1 l2) : apps (T a) (upsD L l1 ++ dnD L l2) = some (T b) := by
  rw [apps_app, h.ups hm.u1]; exact h.dn hm.u2
theorem TxI.setOn (h : TxI L T) (a b : Int) : TxI (Go.Proofs.YtaefeakmlgjonaaGreat.setOn L a b) T := h.mono fun x s' hx => by
  obtain ⟨s0, q1, q2, q3, _⟩ := fr_on' L a b x s' hx
  exact .inr ⟨s0, q1, q2.symm, q3.symm⟩
theorem TxI.led {top : Int} : ∀ (l : List Int) (L : List St), TxI L T → TxI (Go.Proofs.YtaefeakmlgjonaaGreat.led L l top) T
  | [], _, h => h
  | x :: l, L, h => TxI.led l _ (h.setOn _ _)
/-- One text more. -/
def putT (T : Int → List ByteArray) (x : Int) (l : List ByteArray) : Int → List ByteArray := fun y => if y = x then l else T y
theorem TxI.add (h : TxI m.L T) (I : Inw m) {txt : List ByteArray} (ha : apps (T m.now) ds = some txt) : TxI (addT m ds).L (putT T m.next txt) := fun x s hx hf => by
  have hlt := I.inv.lt
  rw [addT_look I.inv] at hx
  by_cases e : x = m.next
  · rw [if_pos e] at hx; cases hx
    unfold putT
    show apps (if m.now = m.next then _ else T m.now) ds = some (if x = m.next then txt else T x)
    rw [if_neg (by omega), if_pos e]; exact ha
  · rw [if_neg e] at hx
    obtain ⟨s0, q1, q2⟩ := Option.map_eq_some_iff.1 hx
    have hs : s.fr = s0.fr ∧ s.by_ = s0.by_ := by rw [← q2]; split <;> exact ⟨rfl, rfl⟩
    have hf0 := I.inv.fam.fr _ _ q1
    unfold putT
    rw [hs.1, hs.2]
    show apps (if s0.fr = m.next then _ else T s0.fr) s0.by_ = some (if x = m.next then txt else T x)
    rw [if_neg (by omega), if_neg e]
    exact h x s0 q1 (by rw [← hs.1]; exact hf)
theorem TxI.ev (h : TxI m.L T) (I : Inw m) (h2 : 2 ≤ m.L.length) : TxI (evT m).L T := by
  cases hfd : m.L.find? (bareP m) with
  | some s =>
    obtain ⟨h1, h3, h4⟩ := bare_some hfd
    have hx := mem_look I.inv.sq h1
    have hf := bare_fr I.inv.fam I.onk I.inv.nw hx h3 h4
    have hxf := I.inv.fam.fr _ _ hx
    rw [ev_some hfd]
    refine h.mono fun y s' hy => .inr ?_
    have hy' : look (cutT m.L s.seq s.fr) y = some s' := hy
    rw [look_cut (by omega)] at hy'
    split at hy'
    · cases hy'
    · obtain ⟨s0, q1, q2⟩ := Option.map_eq_some_iff.1 hy'
      refine ⟨s0, q1, ?_⟩
      rw [← q2]; split <;> exact ⟨rfl, rfl⟩
  | none =>
    obtain ⟨r, M, hL, hM⟩ := cons_of h2
    rw [ev_none hfd]
    refine h.mono fun y s' hy => ?_
    have hy' : look (rootT m.L) y = some s' := hy
    have hs := I.inv.sq
    rw [hL] at hy' hs
    rw [look_root r M hs] at hy'
    split at hy'
    · cases hy'
    · obtain ⟨s0, q1, q2⟩ := Option.map_eq_some_iff.1 hy'
      rw [← q2]
      unfold unroot
      split
      · exact .inl rfl
      · exact .inr ⟨s0, by rw [hL]; exact q1, rfl, rfl⟩
theorem TxI.addE (h : TxI m.L T) (I : Inw m) (hf : Few 2000 ds) (hmo : 1 ≤ m.most) {txt : List ByteArray} (ha : apps (T m.now) ds = some txt) : TxI (Go.Proofs.YtaefeakmlgjonaaGreat.addE m ds).L (putT T m.next txt) := by
  unfold Go.Proofs.YtaefeakmlgjonaaGreat.addE
  split
  · rename_i hov
    exact (h.add I ha).ev (I.add hf) (by omega)
  · exact h.add I ha
end
end Go.Proofs.YtaefeakmlgjonaaGreat
/- A heap of numbers in memory; what its methods are, called through an interface. -/
namespace Go.Proofs.YtaefeakmlgjonaaGreat
open Go.ChangeShapes Go.WideShapes Go.ChangeAt Go.RowKit Go.Maps Go.MapKept
set_option linter.unusedVariables false
set_option linter.unusedSimpArgs false
set_option maxRecDepth 100000
theorem mrow_len : (Tryz.prog.info? 175).map (fun i => (i.methods.find? (·.name == "Len")).map fun m => (m.path, m.func)) = some (some (#[⟨179, 0, true⟩], some (132, false))) := by kernel_rfl
theorem mrow_less : (Tryz.prog.info? 175).map (fun i => (i.methods.find? (·.name == "Less")).map fun m => (m.path, m.func)) = some (some (#[⟨179, 0, true⟩], some (246, false))) := by kernel_rfl
theorem mrow_swap : (Tryz.prog.info? 175).map (fun i => (i.methods.find? (·.name == "Swap")).map fun m => (m.path, m.func)) = some (some (#[⟨179, 0, true⟩], some (250, false))) := by kernel_rfl
theorem mrow_push : (Tryz.prog.info? 175).map (fun i => (i.methods.find? (·.name == "Push")).map fun m => (m.path, m.func)) = some (some (#[], some (248, true))) := by kernel_rfl
theorem mrow_pop : (Tryz.prog.info? 175).map (fun i => (i.methods.find? (·.name == "Pop")).map fun m => (m.path, m.func)) = some (some (#[], some (247, true))) := by kernel_rfl
theorem underLeast : (Tryz.prog.underlying 179).map (fun d => match d with | .struct fs => (fs[0]?).map fun f => (f.type, f.offset) | _ => none) = some (some (177, 0)) := by kernel_rfl
theorem run_find {t : TypeId} {name : String} {p : Array FieldStep} {f : FuncId} {ptr : Bool} (h : (Tryz.prog.info? t).map (fun i => (i.methods.find? (·.name == name)).map fun m => (m.path, m.func)) = some (some (p, some (f, ptr)))) (n : Nat) (v : Value) (w : World) :
    (method (n + 1) t v name).run Tryz.prog w = (do
      let (xt, x) ← follow p.toList t (.val v)
      pure (f, ← receiverAt xt x ptr (if p.isEmpty then some ((name.splitOn ".").getLastD name) else none)) : Sem (FuncId × Value)).run Tryz.prog w := by
  obtain ⟨i, hi, h1⟩ := Option.map_eq_some_iff.1 h
  obtain ⟨m, hm, h2⟩ := Option.map_eq_some_iff.1 h1
  obtain ⟨nm, sg, pp, ff⟩ := m
  simp only [Prod.mk.injEq] at h2
  obtain ⟨rfl, rfl⟩ := h2
  unfold method
  simp only [Sem.run_bind, show (typeInfo t).run Tryz.prog w = .ok i w by simp [typeInfo, hi], Result.andThen_ok, hm]
theorem run_m0 {name : String} {f : FuncId} (h : (Tryz.prog.info? 175).map (fun i => (i.methods.find? (·.name == name)).map fun m => (m.path, m.func)) = some (some (#[], some (f, true)))) (n : Nat) (ad : Addr) (w : World) :
    (method (n + 1) 175 (.pointer (some ad)) name).run Tryz.prog w = .ok (f, .pointer (some ad)) w := by
  rw [run_find h]
  simp [follow, receiverAt, Place.get, run_underlying Tryz.underlying175, Result.andThen]
theorem run_m1 {name : String} {f : FuncId} (h : (Tryz.prog.info? 175).map (fun i => (i.methods.find? (·.name == name)).map fun m => (m.path, m.func)) = some (some (#[⟨179, 0, true⟩], some (f, false)))) (n : Nat) {b : Nat} {w : World} {v : Value} (hv : w.cell? ⟨b, 0, none⟩ = some v) :
    (method (n + 1) 175 (.pointer (some ⟨b, 0, none⟩)) name).run Tryz.prog w = .ok (f, v) w := by
  obtain ⟨d, hd, h1⟩ := Option.map_eq_some_iff.1 underLeast
  cases d with
  | struct fs =>
    obtain ⟨x, hx, h2⟩ := Option.map_eq_some_iff.1 h1
    obtain ⟨t, o⟩ := Prod.mk.inj h2
    rw [run_find h]
    have hsz : (sizeOf x.type).run Tryz.prog w = .ok 1 w := by rw [t]; kernel_rfl
    have hag : (isAgg 177).run Tryz.prog w = .ok false w := by kernel_rfl
    have hld : (load ⟨b, 0, none⟩).run Tryz.prog w = .ok v w := by simp [hv]
    simp [follow, receiverAt, Place.get, run_underlying hd, run_underlying Tryz.underlying177, hx, Result.andThen, asAddr, fieldPlace, hsz, t, o, loadVar, hag, hld, addr_add]
  | _ => cases h1
end Go.Proofs.YtaefeakmlgjonaaGreat
/- Len, Less, Swap of a heap's numbers; Push. -/
namespace Go.Proofs.YtaefeakmlgjonaaGreat
open Go.ChangeShapes Go.WideShapes Go.ChangeAt Go.RowKit Go.Maps Go.MapKept
set_option linter.unusedVariables false
set_option linter.unusedSimpArgs false
set_option maxRecDepth 100000
/-- What a heap's calls turn of what was there. -/
def TH : Obj → Prop
  | .cells _ e _ => e = 179 ∨ e = 3
  | _ => False
/-- At h lies a heap's box, in it v, which reads as these numbers. -/
structure Hq (D h : Nat) (v : Value) (l : List Int) (w : World) : Prop where
  lh : D ≤ h
  box : Lc 179 h [v] w
  row : Ir D v l w
def Hw (D h : Nat) (l : List Int) (w : World) : Prop := ∃ v, Hq D h v l w
section
variable {D h : Nat} {v : Value} {l : List Int} {w w1 : World}
theorem Hq.kp (q : Hq D h v l w) (k : Kp w w1) : Hq D h v l w1 := ⟨q.lh, q.box.kp k, q.row.kp k⟩
theorem Hw.kp (q : Hw D h l w) (k : Kp w w1) : Hw D h l w1 := by obtain ⟨v, q⟩ := q; exact ⟨v, q.kp k⟩
theorem Hq.fr {S : Nat → Prop} (q : Hq D h v l w) (k : Fr S w w1) (hS : ∀ j cur e fr, S j → w.heap[j]? = some (.cells cur e fr) → e ≠ 179 ∧ e ≠ 3) : Hq D h v l w1 := by
  refine ⟨q.lh, q.box.fr k fun e => (hS h _ _ _ e q.box).1 rfl, row_fr q.row k fun j hj e => ?_⟩
  rcases q.row.2 with ⟨z, _⟩ | ⟨g, cap, cur, z, hb, hg, _⟩
  · rw [z] at hj; cases hj
  · rw [z] at hj; simp only [Value.ownBlock, Option.some.injEq] at hj; subst hj; exact (hS g _ _ _ e hg).2 rfl
theorem ir_cells (q : Ir D v l w) (hl : l ≠ []) : ∃ g c, v = .slice (some ⟨g, 0, none⟩) l.length c ∧ D ≤ g ∧ l.length ≤ c ∧ c ≤ maxLen ∧ (∀ i x, l[i]? = some x → w.cell? ⟨g, i, none⟩ = some (.int .i64 x)) ∧ (∀ j, w.frozen? ⟨g, j, none⟩ = false) := by
  rcases q.2 with ⟨_, e0⟩ | ⟨g, c, cur, e, hb, hg, p1, p2, p3, p4⟩
  · exact absurd (List.length_eq_zero_iff.1 e0) hl
  refine ⟨g, c, e, hb, p1, p2, fun i x hi => ?_, fun j => by simp [World.frozen?, hg]⟩
  have hil := (List.getElem?_eq_some_iff.1 hi).1
  have hz : (zcs l)[i]? = some (.int .i64 x) := by simp [zcs, hi]
  rw [cell_at hg, ← Array.getElem?_toList]
  rw [← p4, List.getElem?_take, if_pos (by omega)] at hz
  exact hz
theorem row_put {B n size g c j : Nat} {e : TypeId} {xs : List Value} {w : World} {u : Value} (h : w.ownsRow B e size (.slice (some ⟨g, 0, none⟩) n c) n xs) (hj : j < n * size) : (w.setCell ⟨g, j, none⟩ u).ownsRow B e size (.slice (some ⟨g, 0, none⟩) n c) n (xs.set j u) := by
  refine ⟨by rw [List.length_set]; exact h.1, ?_⟩
  rcases h.2 with ⟨e0, _⟩ | ⟨g', c', cur, e0, hb, hg, p1, p2, p3, p4⟩
  · cases e0
  cases e0
  refine .inr ⟨g, c, _, rfl, hb, heap_setCell hg, p1, p2, by simpa using p3, ?_⟩
  rw [Array.toList_setIfInBounds, List.take_set, p4]
theorem ir_set {g c i : Nat} (q : Ir D (.slice (some ⟨g, 0, none⟩) l.length c) l w) (hi : i < l.length) (x : Int) : Ir D (.slice (some ⟨g, 0, none⟩) l.length c) (l.set i x) (w.setCell ⟨g, i, none⟩ (.int .i64 x)) := by
  have h0 := row_put (u := .int .i64 x) q (j := i) (by omega)
  have e : (zcs l).set i (.int .i64 x) = zcs (l.set i x) := by simp [zcs, List.map_set]
  rw [e] at h0
  unfold Ir
  rw [List.length_set]
  exact h0
end
section
variable {D h : Nat} {v : Value} {l : List Int} {w w1 : World}
set_option maxHeartbeats 4000000 in
theorem len_any (a : Option Addr) (n c : Nat) (w : World) : Calls Tryz.prog 132 #[.slice a n c] w fun e w' => e = .returned (.int .i64 n) ∧ w' = w := by
  go_enter Tryz.func132, Tryz.ntmps132
  go_wp2
  go_ret
  exact ⟨rfl, rfl⟩
set_option maxHeartbeats 4000000 in
theorem less_any (q : Ir D v l w) (hl : l.length ≤ 1000) {i j : Nat} {x y : Int} (hi : l[i]? = some x) (hj : l[j]? = some y) : Calls Tryz.prog 246 #[v, .int .i64 i, .int .i64 j] w fun e w' => e = .returned (.bool (decide (x < y))) ∧ ∃ k, w' = w.drewN k := by
  have hil := (List.getElem?_eq_some_iff.1 hi).1
  have hjl := (List.getElem?_eq_some_iff.1 hj).1
  obtain ⟨g, c, rfl, _, hc1, hc2, hcl, _⟩ := ir_cells q (by rintro rfl; cases hi)
  have c1 := hcl _ _ hi
  have c2 := hcl _ _ hj
  have hiI : (i : Int) < (l.length : Int) := by omega
  have hjI : (j : Int) < (l.length : Int) := by omega
  generalize l.length = N at *
  clear q hcl hi hj
  go_enter Tryz.func246, Tryz.ntmps246
  go_wp2_with fail
  go_quiet (fail)
  go_wp2_with fail
  go_ret
  exact ⟨rfl, _, rfl⟩
set_option maxHeartbeats 8000000 in
theorem swap_any (q : Ir D v l w) (hl : l.length ≤ 1000) {i j : Nat} {x y : Int} (hi : l[i]? = some x) (hj : l[j]? = some y) : Calls Tryz.prog 250 #[v, .int .i64 i, .int .i64 j] w fun e w' => e = .returned (.tuple #[]) ∧ Ir D v ((l.set i y).set j x) w' ∧ Ff TH D w w' ∧ ∀ h u, Lc 179 h [u] w → Lc 179 h [u] w' := by
  have hil := (List.getElem?_eq_some_iff.1 hi).1
  have hjl := (List.getElem?_eq_some_iff.1 hj).1
  obtain ⟨g, c, rfl, hDg, hc1, hc2, hcl, hfz⟩ := ir_cells q (by rintro rfl; cases hi)
  have c1 := hcl _ _ hi
  have c2 := hcl _ _ hj
  have f1 := hfz i
  have f2 := hfz j
  have HP : Hid (∀ k, Ir D (.slice (some ⟨g, 0, none⟩) l.length c) ((l.set i y).set j x) (((w.setCell ⟨g, i, none⟩ (.int .i64 y)).setCell ⟨g, j, none⟩ (.int .i64 x)).drewN k) ∧ Ff TH D w (((w.setCell ⟨g, i, none⟩ (.int .i64 y)).setCell ⟨g, j, none⟩ (.int .i64 x)).drewN k) ∧ ∀ h u, Lc 179 h [u] w → Lc 179 h [u] (((w.setCell ⟨g, i, none⟩ (.int .i64 y)).setCell ⟨g, j, none⟩ (.int .i64 x)).drewN k)) := fun k => by
    have r1 := ir_set q (i := i) hil y
    have e1 : l.length = (l.set i y).length := by rw [List.length_set]
    rw [e1] at r1
    have r2 := ir_set (i := j) r1 (by rw [List.length_set]; exact hjl) x
    rw [← e1] at r2
    refine ⟨r2.kp (kp_drewN _ _), ?_, fun h u hb => ?_⟩
    rotate_left
    · have hn : h ≠ g := fun e => by have := row_ne q hb (by decide); rw [e] at this; exact this rfl
      exact ((hb.other (Ne.symm hn)).other (Ne.symm hn)).kp (kp_drewN _ _)
    have hg : ∃ cur fr, w.heap[g]? = some (.cells cur 3 fr) := by
      rcases q.2 with ⟨z, _⟩ | ⟨g', c', cur, e, hb, hg, _⟩
      · cases z
      · cases e; exact ⟨cur, _, hg⟩
    obtain ⟨cur, fr, hg⟩ := hg
    exact Ff.on (((fr_set g i (.int .i64 y) w).trans (fr_set g j (.int .i64 x) _)).trans (Fr.drewN _ _ _)) hDg hg (.inr rfl)
  have hiI : (i : Int) < (l.length : Int) := by omega
  have hjI : (j : Int) < (l.length : Int) := by omega
  have HIJ : i = j ∨ i ≠ j := by omega
  generalize l.length = N at *
  clear q hcl hi hj hfz
  rcases HIJ with rfl | hij
  · rw [c1] at c2; cases c2
    go_enter Tryz.func250, Tryz.ntmps250
    go_wp2_with fail
    go_region
    go_wp2_with fail
    go_end0
    exact ⟨rfl, HP.out 1⟩
  · have hji : j ≠ i := fun e => hij e.symm
    go_enter Tryz.func250, Tryz.ntmps250
    go_wp2_with fail
    go_region
    go_wp2_with fail
    go_end0
    exact ⟨rfl, HP.out 1⟩
end
end Go.Proofs.YtaefeakmlgjonaaGreat
/- A heap's Push. -/
namespace Go.Proofs.YtaefeakmlgjonaaGreat
open Go.ChangeShapes Go.WideShapes Go.ChangeAt Go.RowKit Go.Maps Go.MapKept
set_option linter.unusedVariables false
set_option linter.unusedSimpArgs false
set_option maxRecDepth 100000
theorem asInt (x : Int) (w : World) : (Instr.typeAssert (.iface 3 (.int .i64 x)) 20 3 false).run Tryz.prog w = .ok (.int .i64 x) w := by
  kernel_rfl
section
variable {D h : Nat} {v : Value} {l : List Int} {w w1 : World}
theorem Hq.grown (q : Hq D h v l w) {w2 : World} {v' : Value} {x : Int} (hr : w2.ownsRow D 3 1 v' (l.length + 1) (zcs l ++ [.int .i64 x])) (hg : w.grownBy w2 v.ownBlock) :
    Lc 179 h [v] w2 ∧ Hq D h v' (l ++ [x]) (w2.setCell ⟨h, 0, none⟩ v') ∧ Ff TH D w (w2.setCell ⟨h, 0, none⟩ v') := by
  have hb : Lc 179 h [v] w2 := q.box.fr (fr_grown hg) fun e => row_ne q.row q.box (by decide) e.symm
  have f0 : Ff TH D w w2 := Fr.mono (fr_grown hg) fun k _ e => by
    rcases q.row.2 with ⟨z, _⟩ | ⟨g, c, cur, z, hb, hgg, _⟩
    · rw [z] at e; cases e
    · rw [z] at e; simp only [Value.ownBlock, Option.some.injEq] at e; subst e; exact ⟨hb, _, hgg, .inr rfl⟩
  have f := fr_set h 0 v' w2
  refine ⟨hb, ⟨q.lh, hb.set 0 v', ?_⟩, f0.trans (Ff.on f q.lh hb (.inl rfl))⟩
  have e1 : zcs (l ++ [x]) = zcs l ++ [.int .i64 x] := by simp [zcs]
  unfold Ir
  rw [List.length_append, List.length_singleton, e1]
  exact row_fr hr f fun j hj e => row_ne hr hb (by decide) (by rw [hj, e])
set_option maxHeartbeats 8000000 in
theorem push_any (q : Hw D h l w) (hl : l.length ≤ 1000) (hD : D ≤ w.heap.size) (x : Int) :
    Calls Tryz.prog 248 #[.pointer (some ⟨h, 0, none⟩), .iface 3 (.int .i64 x)] w fun e w' => e = .returned (.tuple #[]) ∧ Hw D h (l ++ [x]) w' ∧ Ff TH D w w' := by
  obtain ⟨v, q⟩ := q
  obtain ⟨i9, hi9, z0, z1, z2⟩ := info_parts infoInt
  have c0 := q.box.at (j := 0) rfl
  obtain ⟨va, vc, rfl, v1, v2⟩ := q.row.form
  have HF : Hid (∀ w2 v', w2.ownsRow D 3 1 v' (l.length + 1) (zcs l ++ [.int .i64 x]) → (w.alloc (.cells #[.int .i64 x] 3)).drew.grownBy w2 (Value.slice va l.length vc).ownBlock →
      w2.cell? ⟨h, 0, none⟩ = some (.slice va l.length vc) ∧ w2.frozen? ⟨h, 0, none⟩ = false ∧ Hid (∀ k, Hw D h (l ++ [x]) ((w2.setCell ⟨h, 0, none⟩ v').drewN k) ∧ Ff TH D w ((w2.setCell ⟨h, 0, none⟩ v').drewN k))) := fun w2 v' x1 x2 => by
    obtain ⟨r1, r2, r3⟩ := (q.kp (kp_trans (kp_alloc w (.cells #[.int .i64 x] 3)) (kp_drew _))).grown x1 x2
    exact ⟨r1.at (j := 0) rfl, r1.fz 0, fun k => ⟨⟨v', r2.kp (kp_drewN _ _)⟩, ((Ff.kp (kp_trans (kp_alloc _ _) (kp_drew _))).trans r3).trans (Ff.kp (kp_drewN _ _))⟩⟩
  have HR : Hid ((w.alloc (.cells #[.int .i64 x] 3)).drew.ownsRow D 3 1 (.slice va l.length vc) l.length (zcs l)) := row_kp q.row (kp_trans (kp_alloc _ _) (kp_drew _))
  have HN0 : Hid (D ≤ (w.alloc (.cells #[.int .i64 x] 3)).drew.heap.size) := by have := alloc_size w (.cells #[.int .i64 x] 3); show D ≤ (w.alloc (.cells #[.int .i64 x] 3)).heap.size; omega
  have HSZ : Hid ((w.alloc (.cells #[.int .i64 x] 3)).drew.heap.size = w.heap.size + 1) := alloc_size _ _
  have HNW : Hid (∀ j u, ([.int .i64 x] : List Value)[j]? = some u → (w.alloc (.cells #[.int .i64 x] 3)).drew.cell? ((⟨w.heap.size, 0, none⟩ : Addr).add j) = some u) := fun j u hj => by rw [addr_add]; exact ((Lc.new w [.int .i64 x] 3).kp (kp_drew _)).at hj
  have c1 := kp_cell (kp_alloc w (.cells #[.int .i64 x] 3)) c0
  generalize l.length = N at *
  have hty := asInt x
  clear q v1 v2
  go_enter Tryz.func248, Tryz.ntmps248
  go_wp2_with fail
  go_region_law (refine step_append_lies _ rfl (.tmp 8) (.tmp 11) 177 rfl D 3 i9 _ 1 8 Tryz.underlying177 hi9 z0 z1 z2 rfl (by decide) (.slice va N vc) N (zcs l) rfl HR.out ⟨w.heap.size, 0, none⟩ 1 1 [.int .i64 x] rfl rfl HNW.out (by simp [Value.oneCell']) (by omega) (by unfold maxLen; omega) (by omega) HN0.out (w.heap.size + 1) HSZ.out ?_; intro g cp w2 q1 q2 q3 q4; obtain ⟨y1, y2, HE⟩ := HF.out w2 _ q1 q2; clear q1 q2 q3 q4)
  all_goals
    go_wp2_with fail
    go_end0
    exact ⟨rfl, HE.out 0⟩
end
end Go.Proofs.YtaefeakmlgjonaaGreat
/- A heap's up. -/
namespace Go.Proofs.YtaefeakmlgjonaaGreat
open Go.ChangeShapes Go.WideShapes Go.ChangeAt Go.RowKit Go.Maps Go.MapKept
set_option linter.unusedVariables false
set_option linter.unusedSimpArgs false
set_option maxRecDepth 100000
/-- While x goes up from the end of l0: it stands at j. -/
structure Sif (l0 : List Int) (x : Int) (l : List Int) (j : Nat) : Prop where
  len : l.length = l0.length + 1
  at_ : l[j]? = some x
  old : ∀ i y, i ≠ j → l[i]? = some y → y ∈ l0
  all : ∀ y ∈ l0, y ∈ l
  top : j ≠ 0 → l[0]? = l0[0]?
  low : j = 0 → ∀ y ∈ l0, x ≤ y
/-- The first one is the least of them. -/
def Hmin (l : List Int) : Prop := ∀ m, l[0]? = some m → ∀ y ∈ l, m ≤ y
section
variable {l0 l : List Int} {x : Int} {j : Nat}
theorem Sif.start (l0 : List Int) (x : Int) : Sif l0 x (l0 ++ [x]) l0.length := by
  refine ⟨by simp, by simp, fun i y hi h => ?_, fun y hy => by simp [hy], fun hj => ?_, fun hj y hy => ?_⟩
  · have hl := (List.getElem?_eq_some_iff.1 h).1
    simp at hl
    rw [List.getElem?_append_left (by omega)] at h
    exact List.mem_of_getElem? h
  · rw [List.getElem?_append_left (by omega)]
  · rw [List.length_eq_zero_iff.1 hj] at hy; cases hy
theorem Sif.mem (h : Sif l0 x l j) (y : Int) : y ∈ l ↔ y = x ∨ y ∈ l0 := by
  constructor
  · intro hy
    obtain ⟨i, hi⟩ := List.getElem?_of_mem hy
    by_cases q : i = j
    · subst q; rw [h.at_] at hi; cases hi; exact .inl rfl
    · exact .inr (h.old i y q hi)
  · rintro (rfl | hy)
    · exact List.mem_of_getElem? h.at_
    · exact h.all y hy
theorem Sif.top_end (h : Sif l0 x l 0) : Hmin l := fun m hm y hy => by
  rw [h.at_] at hm; cases hm
  rcases (h.mem y).1 hy with rfl | q
  · exact Int.le_refl _
  · exact h.low rfl y q
theorem Sif.mid_end (h : Sif l0 x l j) (hm0 : Hmin l0) (hj : j ≠ 0) {i : Nat} {y : Int} (hi : i ≠ j) (hy : l[i]? = some y) (hn : ¬ x < y) : Hmin l := fun m hm z hz => by
  rw [h.top hj] at hm
  have h1 := hm0 m hm y (h.old i y hi hy)
  rcases (h.mem z).1 hz with rfl | q
  · omega
  · exact hm0 m hm z q
theorem Sif.step (h : Sif l0 x l j) (hm0 : Hmin l0) (hj : j ≠ 0) {i : Nat} {y : Int} (hi : i ≠ j) (hy : l[i]? = some y) (hn : x < y) : Sif l0 x ((l.set i x).set j y) i := by
  have hjl := (List.getElem?_eq_some_iff.1 h.at_).1
  have hil := (List.getElem?_eq_some_iff.1 hy).1
  have g : ∀ k, ((l.set i x).set j y)[k]? = if k = j then some y else if k = i then some x else l[k]? := fun k => by
    by_cases q : k = j
    · subst q; rw [if_pos rfl, List.getElem?_set_self (by rw [List.length_set]; exact hjl)]
    · rw [if_neg q, List.getElem?_set_ne (Ne.symm q)]
      by_cases p : k = i
      · subst p; rw [if_pos rfl, List.getElem?_set_self hil]
      · rw [if_neg p, List.getElem?_set_ne (Ne.symm p)]
  refine ⟨by rw [List.length_set, List.length_set]; exact h.len, by rw [g, if_neg hi, if_pos rfl], fun k z hk hz => ?_, fun z hz => ?_, fun h0 => ?_, fun h0 z hz => ?_⟩
  · rw [g] at hz
    by_cases q : k = j
    · rw [if_pos q] at hz; cases hz; exact h.old i y hi hy
    · rw [if_neg q, if_neg hk] at hz; exact h.old k z q hz
  · obtain ⟨k, hk⟩ := List.getElem?_of_mem (h.all z hz)
    by_cases q : k = j
    · subst q; rw [h.at_] at hk; cases hk
      exact List.mem_of_getElem? (i := i) (by rw [g, if_neg hi, if_pos rfl])
    · by_cases p : k = i
      · subst p; rw [hy] at hk; cases hk
        exact List.mem_of_getElem? (i := j) (by rw [g, if_pos rfl])
      · exact List.mem_of_getElem? (i := k) (by rw [g, if_neg q, if_neg p]; exact hk)
  · rw [g, if_neg (Ne.symm hj), if_neg (Ne.symm h0)]; exact h.top hj
  · subst h0
    rw [h.top hj] at hy
    have := hm0 y hy z hz
    omega
end
section
variable {D h : Nat} {l0 l : List Int} {w w1 : World} {x : Int}
set_option maxHeartbeats 16000000 in
theorem up_heap (q : Hw D h l w) (hl : l.length ≤ 500) (hD : D ≤ w.heap.size) {j : Nat} (hs : Sif l0 x l j) (hm : Hmin l0) :
    Calls Tryz.prog 183 #[.iface 175 (.pointer (some ⟨h, 0, none⟩)), .int .i64 j] w fun e w' => e = .returned (.tuple #[]) ∧ ∃ l' j', Sif l0 x l' j' ∧ Hmin l' ∧ Hw D h l' w' ∧ Ff TH D w w' := by
  have H0 : Hid (Hw D h l w ∧ Sif l0 x l j ∧ l.length ≤ 500 ∧ D ≤ w.heap.size ∧ Hmin l0) := ⟨q, hs, hl, hD, hm⟩
  have hj : (j : Int) < 500 := by have := (List.getElem?_eq_some_iff.1 hs.at_).1; omega
  clear q hs hl hD hm
  go_enter Tryz.func183, Tryz.ntmps183
  go_wp2_with fail
  go_loopw [1] (fun v1 wr => ∃ (j : Nat) (l : List Int), v1 = .int .i64 j ∧ (j : Int) < 500 ∧ Hid (Hw D h l wr ∧ Sif l0 x l j ∧ l.length ≤ 500 ∧ D ≤ wr.heap.size ∧ Hmin l0 ∧ Ff TH D w wr)) (fun v1 _ => (intOf v1).toNat)
  case atStart => exact ⟨j, l, rfl, hj, H0.out.1, H0.out.2.1, H0.out.2.2.1, H0.out.2.2.2.1, H0.out.2.2.2.2, Ff.refl _ _ _⟩
  case round =>
    obtain ⟨j, l, rfl, hj, HI⟩ := hrel
    clear H0
    rcases Nat.eq_zero_or_pos j with p | p
    · subst p
      have HX : Hid (∃ l' j', Sif l0 x l' j' ∧ Hmin l' ∧ Hw D h l' wr ∧ Ff TH D w wr) := ⟨l, 0, HI.out.2.1, HI.out.2.1.top_end, HI.out.1, HI.out.2.2.2.2.2⟩
      clear HI
      go_wp2_with fail
      go_end0
      exact ⟨rfl, HX.out⟩
    · obtain ⟨k, rfl⟩ : ∃ k, j = k + 1 := ⟨j - 1, by omega⟩
      obtain ⟨i, hi⟩ : ∃ i, k / 2 = i := ⟨_, rfl⟩
      have hi2 : (k : Int) / 2 = (i : Int) := by omega
      have d1 : ((i : Int) == (k : Int) + 1) = false := beq_eq_false_iff_ne.2 (by omega)
      have hne : i ≠ k + 1 := by omega
      obtain ⟨v, hq⟩ := HI.out.1
      have c0 := hq.box.at (j := 0) rfl
      have hle := fun n => run_m1 mrow_less n c0
      have hjl := (List.getElem?_eq_some_iff.1 HI.out.2.1.at_).1
      obtain ⟨y, hy⟩ : ∃ y, l[i]? = some y := ⟨_, List.getElem?_eq_getElem (by omega)⟩
      have HL : Hid (Calls Tryz.prog 246 #[v, .int .i64 ((k : Int) + 1), .int .i64 i] wr fun e w' => e = .returned (.bool (decide (x < y))) ∧ ∃ k, w' = wr.drewN k) := less_any hq.row (by have := HI.out.2.2.1; omega) HI.out.2.1.at_ hy
      have HQ : Hid (Hq D h v l wr ∧ l[i]? = some y ∧ i ≠ k + 1) := ⟨hq, hy, hne⟩
      clear hq hy c0 hi hne hjl
      by_cases hxy : x < y
      · have d2 : decide (x < y) = true := decide_eq_true hxy
        have HX : Hid (∀ z, Kp wr z → Hid ((∀ n, (method (n + 1) 175 (.pointer (some ⟨h, 0, none⟩)) "Swap").run Tryz.prog z = .ok (250, v) z) ∧ Calls Tryz.prog 250 #[v, .int .i64 i, .int .i64 ((k : Int) + 1)] z fun e w' => e = .returned (.tuple #[]) ∧ Hw D h ((l.set i x).set (k + 1) y) w' ∧ Sif l0 x ((l.set i x).set (k + 1) y) i ∧ ((l.set i x).set (k + 1) y).length ≤ 500 ∧ D ≤ w'.heap.size ∧ Hmin l0 ∧ Ff TH D w w')) := fun z kz => by
          have hq := HQ.out.1.kp kz
          refine ⟨fun n => run_m1 mrow_swap n (hq.box.at (j := 0) rfl), (swap_any hq.row (by have := HI.out.2.2.1; omega) HQ.out.2.1 HI.out.2.1.at_).mono ?_⟩
          rintro e w' ⟨rfl, r1, r2, r3⟩
          exact ⟨rfl, ⟨v, hq.lh, r3 _ _ hq.box, r1⟩, HI.out.2.1.step HI.out.2.2.2.2.1 (by omega) HQ.out.2.2 HQ.out.2.1 hxy, by rw [List.length_set, List.length_set]; exact HI.out.2.2.1, Nat.le_trans (Nat.le_trans HI.out.2.2.2.1 kz.size) r2.size, HI.out.2.2.2.2.1, (HI.out.2.2.2.2.2.trans (Ff.kp kz)).trans r2⟩
        clear HI
        go_wp2_with fail
        refine Calls.mono HL.out ?_
        rintro e w' ⟨rfl, n, rfl⟩
        clear HL hle
        obtain ⟨hsw, hSW⟩ := (HX.out _ (kp_drewN wr n)).out
        have HS : Hid _ := hSW
        clear hSW HX HQ hxy
        go_wp2_with fail
        refine Calls.mono HS.out ?_
        rintro e w2 ⟨rfl, r⟩
        have HR : Hid _ := r
        clear HS r hsw
        go_wp2_with fail
        go_roundw
        case rel => exact ⟨i, _, rfl, by omega, HR.out⟩
        case measure => simp only [intOf]; omega
      · have d2 : decide (x < y) = false := decide_eq_false hxy
        have HX : Hid (∃ l' j', Sif l0 x l' j' ∧ Hmin l' ∧ Hw D h l' wr ∧ Ff TH D w wr) := ⟨l, k + 1, HI.out.2.1, HI.out.2.1.mid_end HI.out.2.2.2.2.1 (by omega) HQ.out.2.2 HQ.out.2.1 hxy, HI.out.1, HI.out.2.2.2.2.2⟩
        clear HI HQ hxy
        go_wp2_with fail
        refine Calls.mono HL.out ?_
        rintro e w' ⟨rfl, n, rfl⟩
        clear HL
        go_wp2_with fail
        go_end0
        obtain ⟨l', j', x1, x2, x3, x4⟩ := HX.out
        exact ⟨rfl, l', j', x1, x2, x3.kp (kp_drewN _ _), x4.trans (Ff.kp (kp_drewN _ _))⟩
end
end Go.Proofs.YtaefeakmlgjonaaGreat
/- heap.Push, heap.down, heap.Pop. -/
namespace Go.Proofs.YtaefeakmlgjonaaGreat
open Go.ChangeShapes Go.WideShapes Go.ChangeAt Go.RowKit Go.Maps Go.MapKept
set_option linter.unusedVariables false
set_option linter.unusedSimpArgs false
set_option maxRecDepth 100000
section
variable {D h : Nat} {v : Value} {l0 l : List Int} {w w1 : World} {x : Int}
theorem Hq.less (q : Hq D h v l w) (hl : l.length ≤ 500) {a b : Nat} {x y : Int} (ha : l[a]? = some x) (hb : l[b]? = some y) {z : World} (k : Kp w z) :
    (∀ n, (method (n + 1) 175 (.pointer (some ⟨h, 0, none⟩)) "Less").run Tryz.prog z = .ok (246, v) z) ∧ Calls Tryz.prog 246 #[v, .int .i64 a, .int .i64 b] z fun e w' => e = .returned (.bool (decide (x < y))) ∧ ∃ k, w' = z.drewN k :=
  ⟨fun n => run_m1 mrow_less n ((q.kp k).box.at (j := 0) rfl), less_any (q.kp k).row (by omega) ha hb⟩
theorem Hq.swap (q : Hq D h v l w) (hl : l.length ≤ 500) {a b : Nat} {x y : Int} (ha : l[a]? = some x) (hb : l[b]? = some y) {z : World} (k : Kp w z) :
    (∀ n, (method (n + 1) 175 (.pointer (some ⟨h, 0, none⟩)) "Swap").run Tryz.prog z = .ok (250, v) z) ∧ Calls Tryz.prog 250 #[v, .int .i64 a, .int .i64 b] z fun e w' => e = .returned (.tuple #[]) ∧ Hw D h ((l.set a y).set b x) w' ∧ Ff TH D w w' := by
  refine ⟨fun n => run_m1 mrow_swap n ((q.kp k).box.at (j := 0) rfl), (swap_any (q.kp k).row (by omega) ha hb).mono ?_⟩
  rintro e w' ⟨rfl, r1, r2, r3⟩
  exact ⟨rfl, ⟨v, q.lh, r3 _ _ (q.kp k).box, r1⟩, (Ff.kp k).trans r2⟩
set_option maxHeartbeats 8000000 in
theorem pushH_any (q : Hw D h l w) (hl : l.length ≤ 400) (hD : D ≤ w.heap.size) (hm : Hmin l) (x : Int) :
    Calls Tryz.prog 155 #[.iface 175 (.pointer (some ⟨h, 0, none⟩)), .iface 3 (.int .i64 x)] w fun e w' => e = .returned (.tuple #[]) ∧ ∃ l', Hw D h l' w' ∧ Hmin l' ∧ l'.length = l.length + 1 ∧ (∀ y, y ∈ l' ↔ y = x ∨ y ∈ l) ∧ Ff TH D w w' := by
  have hpu := fun n => run_m0 mrow_push n ⟨h, 0, none⟩ w
  have HP : Hid _ := push_any q (by omega) hD x
  have HD : Hid (D ≤ w.heap.size ∧ l.length ≤ 400 ∧ Hmin l) := ⟨hD, hl, hm⟩
  clear q hl hD hm
  go_enter Tryz.func155, Tryz.ntmps155
  go_wp2_with fail
  refine Calls.mono HP.out ?_
  rintro e w1 ⟨rfl, ⟨v1, q1⟩, f1⟩
  obtain ⟨a1, c1, rfl, _⟩ := q1.row.form
  obtain ⟨N, hN⟩ : ∃ N, l.length = N := ⟨_, rfl⟩
  have e1 : (l ++ [x]).length = N + 1 := by rw [List.length_append, hN]; rfl
  have HU : Hid (Calls Tryz.prog 183 #[.iface 175 (.pointer (some ⟨h, 0, none⟩)), .int .i64 N] w1 fun e w' => e = .returned (.tuple #[]) ∧ ∃ l', Hw D h l' w' ∧ Hmin l' ∧ l'.length = N + 1 ∧ (∀ y, y ∈ l' ↔ y = x ∨ y ∈ l) ∧ Ff TH D w w') := by
    rw [← hN]
    refine (up_heap ⟨_, q1⟩ (by rw [e1]; have := HD.out; omega) (Nat.le_trans HD.out.1 f1.size) (Sif.start l x) HD.out.2.2).mono ?_
    rintro e w' ⟨rfl, l', j', r1, r2, r3, r4⟩
    exact ⟨rfl, l', r3, r2, r1.len, r1.mem, f1.trans r4⟩
  have hNI : (N : Int) ≤ 400 := by have := HD.out.2.1; omega
  have hle := fun n => run_m1 mrow_len n (q1.box.at (j := 0) rfl)
  rw [e1] at hle
  have HLen : Hid _ := len_any a1 (N + 1) c1 w1
  clear HP hpu q1 f1
  go_wp2_with fail
  refine Calls.mono HLen.out ?_
  rintro e w2 ⟨rfl, rfl⟩
  clear HLen hle
  go_wp2_with fail
  refine Calls.mono HU.out ?_
  rintro e w2 ⟨rfl, r⟩
  have HR : Hid _ := r
  clear HU r
  go_wp2_with fail
  go_end0
  obtain ⟨l', r1, r2, r3, r4, r5⟩ := HR.out
  exact ⟨rfl, l', r1, r2, by rw [r3, hN], r4, r5⟩
set_option maxHeartbeats 8000000 in
theorem pop_any (q : Hw D h l w) (hl : l.length ≤ 500) {n : Nat} (hn : l.length = n + 1) {z : Int} (hz : l[n]? = some z) :
    Calls Tryz.prog 247 #[.pointer (some ⟨h, 0, none⟩)] w fun e w' => e = .returned (.iface 3 (.int .i64 z)) ∧ Ff TH D w w' := by
  obtain ⟨v, q⟩ := q
  have c0 := q.box.at (j := 0) rfl
  have f0 := q.box.fz 0
  obtain ⟨g, c, hv, hDg, hc1, hc2, hcl, hfz⟩ := ir_cells q.row (by rintro rfl; cases hz)
  subst hv
  have c1 := hcl _ _ hz
  have HF : Hid (∀ u, Ff TH D w (w.setCell ⟨h, 0, none⟩ u)) := fun u => Ff.on (fr_set h 0 u w) q.lh q.box (.inl rfl)
  have hc : n ≤ c := by omega
  have hcI : (n : Int) ≤ (c : Int) := by omega
  unfold maxLen at hc2
  have HLen : Hid _ := len_any (some ⟨g, 0, none⟩) (n + 1) c w
  rw [hn] at c0
  clear q hcl hfz hz hn hl hc1
  go_enter Tryz.func247, Tryz.ntmps247
  go_wp2_with fail
  refine Calls.mono HLen.out ?_
  rintro e w2 ⟨rfl, rfl⟩
  clear HLen
  go_wp2_with fail
  go_ret
  exact ⟨rfl, HF.out _⟩
end
end Go.Proofs.YtaefeakmlgjonaaGreat
/- heap.down. -/
namespace Go.Proofs.YtaefeakmlgjonaaGreat
open Go.ChangeShapes Go.WideShapes Go.ChangeAt Go.RowKit Go.Maps Go.MapKept
set_option linter.unusedVariables false
set_option linter.unusedSimpArgs false
set_option maxRecDepth 100000
section
variable {D h : Nat} {v : Value} {l0 l : List Int} {w w1 : World} {x : Int}
/-- While one goes down. -/
def Dwn (D h n i len : Nat) (lst : Option Int) (w wr : World) : Prop := ∃ l v, Hq D h v l wr ∧ l.length = len ∧ l[n]? = lst ∧ Ff TH D w wr
theorem Dwn.swap {n i j len : Nat} {lst : Option Int} {wr wz : World} (hq : Hq D h v l wr) (hlen : l.length = len) (hl : len ≤ 500) (hlst : l[n]? = lst) (f : Ff TH D w wr) {x y : Int} (hi : l[i]? = some x) (hj : l[j]? = some y) (hin : i < n) (hjn : j < n) (k : Kp wr wz) :
    (∀ n, (method (n + 1) 175 (.pointer (some ⟨h, 0, none⟩)) "Swap").run Tryz.prog wz = .ok (250, v) wz) ∧ Calls Tryz.prog 250 #[v, .int .i64 i, .int .i64 j] wz fun e w' => e = .returned (.tuple #[]) ∧ Dwn D h n j len lst w w' := by
  obtain ⟨h1, h2⟩ := hq.swap (by omega) hi hj k
  refine ⟨h1, h2.mono ?_⟩
  rintro e w' ⟨rfl, ⟨v', q'⟩, f'⟩
  exact ⟨rfl, _, v', q', by rw [List.length_set, List.length_set]; exact hlen, by rw [List.getElem?_set_ne (by omega), List.getElem?_set_ne (by omega)]; exact hlst, f.trans f'⟩
set_option maxHeartbeats 32000000 in
theorem down_heap (q : Hw D h l w) (hl : l.length ≤ 500) {n : Nat} (hn : n < l.length) :
    Calls Tryz.prog 157 #[.iface 175 (.pointer (some ⟨h, 0, none⟩)), .int .i64 0, .int .i64 n] w fun e w' => ∃ b l', e = .returned (.bool b) ∧ Hw D h l' w' ∧ l'.length = l.length ∧ l'[n]? = l[n]? ∧ Ff TH D w w' := by
  have H0 : Hid (Dwn D h n 0 l.length l[n]? w w) := by obtain ⟨v, q⟩ := q; exact ⟨l, v, q, rfl, rfl, Ff.refl _ _ _⟩
  have HB : Hid (l.length ≤ 500 ∧ n < l.length) := ⟨hl, hn⟩
  have hnI : (n : Int) < 500 := by omega
  clear q hl hn
  go_enter Tryz.func157, Tryz.ntmps157
  go_wp2_with fail
  go_loopw [7] (fun v7 wr => ∃ (i : Nat), v7 = .int .i64 i ∧ i ≤ n ∧ Hid (Dwn D h n i l.length l[n]? w wr)) (fun v7 _ => n - (intOf v7).toNat)
  case atStart => exact ⟨0, rfl, Nat.zero_le _, H0.out⟩
  case round =>
    obtain ⟨i, rfl, hi, HI⟩ := hrel
    clear H0
    obtain ⟨l1, v, hq, hlen, hlst, hff⟩ := HI.out
    have HQ : Hid (Hq D h v l1 wr ∧ l1.length = l.length ∧ l1[n]? = l[n]? ∧ Ff TH D w wr) := ⟨hq, hlen, hlst, hff⟩
    have HEND : Hid (∀ k, Hw D h l1 (wr.drewN k) ∧ l1.length = l.length ∧ l1[n]? = l[n]? ∧ Ff TH D w (wr.drewN k)) := fun k => ⟨⟨v, hq.kp (kp_drewN _ _)⟩, hlen, hlst, hff.trans (Ff.kp (kp_drewN _ _))⟩
    obtain ⟨c, hc⟩ : ∃ c, c = 2 * i + 1 := ⟨_, rfl⟩
    have u1 : 2 * (i : Int) + 1 = (c : Int) := by omega
    have HC : Hid (c = 2 * i + 1) := hc
    clear hq hlen hlst hff HI hc
    by_cases p : n ≤ c
    · have d1 : decide ((c : Int) ≥ (n : Int)) = true := decide_eq_true (by omega)
      have d2 : decide ((n : Int) ≤ (c : Int)) = true := decide_eq_true (by omega)
      have d3 : decide (n ≤ c) = true := decide_eq_true p
      clear HQ
      go_wp2_with fail
      go_ret
      exact ⟨_, l1, rfl, HEND.out 0⟩
    · have d1 : decide ((c : Int) ≥ (n : Int)) = false := decide_eq_false (by omega)
      have d2 : decide ((n : Int) ≤ (c : Int)) = false := decide_eq_false (by omega)
      have d3 : decide (n ≤ c) = false := decide_eq_false p
      have d4 : decide ((c : Int) < 0) = false := decide_eq_false (by omega)
      obtain ⟨z, hz⟩ : ∃ z, c + 1 = z := ⟨_, rfl⟩
      have u2 : (c : Int) + 1 = (z : Int) := by omega
      have HZ : Hid (c + 1 = z) := hz
      have HLT : Hid (n < l1.length ∧ l1.length ≤ 500) := by rw [HQ.out.2.1]; exact ⟨HB.out.2, HB.out.1⟩
      obtain ⟨yi, hyi⟩ : ∃ y, l1[i]? = some y := ⟨_, List.getElem?_eq_getElem (by have := HC.out; have := HLT.out; omega)⟩
      obtain ⟨yc, hyc⟩ : ∃ y, l1[c]? = some y := ⟨_, List.getElem?_eq_getElem (by have := HLT.out; omega)⟩
      have HY : Hid (l1[i]? = some yi ∧ l1[c]? = some yc) := ⟨hyi, hyc⟩
      have HR : Hid (∀ (j : Nat) (x y : Int) (m : Nat), l1[i]? = some x → l1[j]? = some y → i < n → j < n → Hid ((∀ n, (method (n + 1) 175 (.pointer (some ⟨h, 0, none⟩)) "Swap").run Tryz.prog (wr.drewN m) = .ok (250, v) (wr.drewN m)) ∧ Calls Tryz.prog 250 #[v, .int .i64 i, .int .i64 j] (wr.drewN m) fun e w' => e = .returned (.tuple #[]) ∧ Dwn D h n j l.length l[n]? w w')) := fun j x y m h1 h2 h3 h4 => Dwn.swap HQ.out.1 HQ.out.2.1 HB.out.1 HQ.out.2.2.1 HQ.out.2.2.2 h1 h2 h3 h4 (kp_drewN _ _)
      have HLS : Hid (∀ (a b : Nat) (x y : Int) (m : Nat), l1[a]? = some x → l1[b]? = some y → Hid ((∀ n, (method (n + 1) 175 (.pointer (some ⟨h, 0, none⟩)) "Less").run Tryz.prog (wr.drewN m) = .ok (246, v) (wr.drewN m)) ∧ Calls Tryz.prog 246 #[v, .int .i64 a, .int .i64 b] (wr.drewN m) fun e w' => e = .returned (.bool (decide (x < y))) ∧ ∃ k, w' = wr.drewN k)) := fun a b x y m h1 h2 => by
        obtain ⟨g1, g2⟩ := HQ.out.1.less HLT.out.2 h1 h2 (kp_drewN wr m)
        refine ⟨g1, g2.mono ?_⟩
        rintro e w' ⟨rfl, k, rfl⟩
        exact ⟨rfl, m + k, by rw [drew2]⟩
      clear hz hyi hyc HQ
      by_cases p2 : z < n
      · have b1 : decide ((z : Int) < (n : Int)) = true := decide_eq_true (by omega)
        have b2 : decide (z < n) = true := decide_eq_true p2
        obtain ⟨yz, hyz⟩ : ∃ y, l1[z]? = some y := ⟨_, List.getElem?_eq_getElem (by have := HLT.out; omega)⟩
        have HYZ : Hid (l1[z]? = some yz) := hyz
        obtain ⟨hl1, HL1⟩ := (HLS.out z c yz yc 0 hyz HY.out.2).out
        change ∀ n, (method (n + 1) 175 (.pointer (some ⟨h, 0, none⟩)) "Less").run Tryz.prog wr = .ok (246, v) wr at hl1
        have HL1' : Hid (Calls Tryz.prog 246 #[v, .int .i64 z, .int .i64 c] wr fun e w' => e = .returned (.bool (decide (yz < yc))) ∧ ∃ k, w' = wr.drewN k) := HL1
        clear hyz HL1
        by_cases p3 : yz < yc
        · have b3 : decide (yz < yc) = true := decide_eq_true p3
          clear p3
          go_wp2_with fail
          refine Calls.mono HL1'.out ?_
          rintro e w' ⟨rfl, m, rfl⟩
          clear HL1' hl1
          obtain ⟨hl3, HL3⟩ := (HLS.out z i yz yi m (HYZ.out) HY.out.1).out
          have HL3' : Hid _ := HL3
          have HLTi : Hid (z < n ∧ i < n ∧ i < z) := ⟨p2, by have := HC.out; omega, by have := HC.out; have := HZ.out; omega⟩
          clear HL3
          by_cases p5 : yz < yi
          · have b5 : decide (yz < yi) = true := decide_eq_true p5
            clear p5 HEND
            go_wp2_with fail
            refine Calls.mono HL3'.out ?_
            rintro e w' ⟨rfl, m5, rfl⟩
            clear HL3' hl3 HLS
            obtain ⟨hs5, HS5⟩ := (HR.out z yi yz m5 HY.out.1 (HYZ.out) HLTi.out.2.1 HLTi.out.1).out
            have HS : Hid _ := HS5
            clear HS5
            go_wp2_with fail
            refine Calls.mono HS.out ?_
            rintro e w6 ⟨rfl, r⟩
            have HX : Hid _ := r
            clear HS hs5 r HR
            go_wp2_with fail
            go_roundw
            case rel => exact ⟨z, rfl, by have := HLTi.out; omega, HX.out⟩
            case measure => have := HLTi.out; simp only [intOf]; omega
          · have b5 : decide (yz < yi) = false := decide_eq_false p5
            clear p5 HR
            go_wp2_with fail
            refine Calls.mono HL3'.out ?_
            rintro e w' ⟨rfl, m5, rfl⟩
            clear HL3' hl3 HLS
            go_wp2_with fail
            go_ret
            exact ⟨_, l1, rfl, HEND.out _⟩
        · have b3 : decide (yz < yc) = false := decide_eq_false p3
          clear p3
          go_wp2_with fail
          refine Calls.mono HL1'.out ?_
          rintro e w' ⟨rfl, m, rfl⟩
          clear HL1' hl1
          obtain ⟨hl3, HL3⟩ := (HLS.out c i yc yi m (HY.out.2) HY.out.1).out
          have HL3' : Hid _ := HL3
          have HLTi : Hid (c < n ∧ i < n ∧ i < c) := ⟨(by omega), by have := HC.out; omega, by have := HC.out; have := HZ.out; omega⟩
          clear HL3
          by_cases p5 : yc < yi
          · have b5 : decide (yc < yi) = true := decide_eq_true p5
            clear p5 HEND
            go_wp2_with fail
            refine Calls.mono HL3'.out ?_
            rintro e w' ⟨rfl, m5, rfl⟩
            clear HL3' hl3 HLS
            obtain ⟨hs5, HS5⟩ := (HR.out c yi yc m5 HY.out.1 (HY.out.2) HLTi.out.2.1 HLTi.out.1).out
            have HS : Hid _ := HS5
            clear HS5
            go_wp2_with fail
            refine Calls.mono HS.out ?_
            rintro e w6 ⟨rfl, r⟩
            have HX : Hid _ := r
            clear HS hs5 r HR
            go_wp2_with fail
            go_roundw
            case rel => exact ⟨c, rfl, by have := HLTi.out; omega, HX.out⟩
            case measure => have := HLTi.out; simp only [intOf]; omega
          · have b5 : decide (yc < yi) = false := decide_eq_false p5
            clear p5 HR
            go_wp2_with fail
            refine Calls.mono HL3'.out ?_
            rintro e w' ⟨rfl, m5, rfl⟩
            clear HL3' hl3 HLS
            go_wp2_with fail
            go_ret
            exact ⟨_, l1, rfl, HEND.out _⟩
      · have b1 : decide ((z : Int) < (n : Int)) = false := decide_eq_false (by omega)
        have b2 : decide (z < n) = false := decide_eq_false p2
        obtain ⟨hl3, HL3⟩ := (HLS.out c i yc yi 0 (HY.out.2) HY.out.1).out
        change ∀ n, (method (n + 1) 175 (.pointer (some ⟨h, 0, none⟩)) "Less").run Tryz.prog wr = .ok (246, v) wr at hl3
        have HL3' : Hid (Calls Tryz.prog 246 #[v, .int .i64 c, .int .i64 i] wr fun e w' => e = .returned (.bool (decide (yc < yi))) ∧ ∃ k, w' = wr.drewN k) := HL3
        have HLTi : Hid (c < n ∧ i < n ∧ i < c) := ⟨(by omega), by have := HC.out; omega, by have := HC.out; have := HZ.out; omega⟩
        clear HL3
        by_cases p5 : yc < yi
        · have b5 : decide (yc < yi) = true := decide_eq_true p5
          clear p5 HEND
          go_wp2_with fail
          refine Calls.mono HL3'.out ?_
          rintro e w' ⟨rfl, m5, rfl⟩
          clear HL3' hl3 HLS
          obtain ⟨hs5, HS5⟩ := (HR.out c yi yc m5 HY.out.1 (HY.out.2) HLTi.out.2.1 HLTi.out.1).out
          have HS : Hid _ := HS5
          clear HS5
          go_wp2_with fail
          refine Calls.mono HS.out ?_
          rintro e w6 ⟨rfl, r⟩
          have HX : Hid _ := r
          clear HS hs5 r HR
          go_wp2_with fail
          go_roundw
          case rel => exact ⟨c, rfl, by have := HLTi.out; omega, HX.out⟩
          case measure => have := HLTi.out; simp only [intOf]; omega
        · have b5 : decide (yc < yi) = false := decide_eq_false p5
          clear p5 HR
          go_wp2_with fail
          refine Calls.mono HL3'.out ?_
          rintro e w' ⟨rfl, m5, rfl⟩
          clear HL3' hl3 HLS
          go_wp2_with fail
          go_ret
          exact ⟨_, l1, rfl, HEND.out _⟩

end
end Go.Proofs.YtaefeakmlgjonaaGreat
/- heap.Pop. -/
namespace Go.Proofs.YtaefeakmlgjonaaGreat
open Go.ChangeShapes Go.WideShapes Go.ChangeAt Go.RowKit Go.Maps Go.MapKept
set_option linter.unusedVariables false
set_option linter.unusedSimpArgs false
set_option maxRecDepth 100000
section
variable {D h : Nat} {v : Value} {l0 l : List Int} {w w1 : World} {x : Int}
set_option maxHeartbeats 8000000 in
theorem popH_any (q : Hw D h l w) (hl : l.length ≤ 500) {n : Nat} (hn : l.length = n + 1) {m : Int} (hm : l[0]? = some m) :
    Calls Tryz.prog 135 #[.iface 175 (.pointer (some ⟨h, 0, none⟩))] w fun e w' => e = .returned (.iface 3 (.int .i64 m)) ∧ Ff TH D w w' := by
  obtain ⟨v, q⟩ := q
  obtain ⟨z, hz⟩ : ∃ z, l[n]? = some z := ⟨_, List.getElem?_eq_getElem (by omega)⟩
  obtain ⟨hs, HS⟩ := q.swap hl hm hz (Below.refl _ _)
  have hle := fun n => run_m1 mrow_len n (q.box.at (j := 0) rfl)
  obtain ⟨a1, c1, rfl, _⟩ := q.row.form
  have HLen : Hid _ := len_any a1 (n + 1) c1 w
  have hg : ((l.set 0 z).set n m)[n]? = some m := by rw [List.getElem?_set_self (by rw [List.length_set]; omega)]
  have H1 : Hid (Calls Tryz.prog 250 #[.slice a1 (n + 1) c1, .int .i64 0, .int .i64 n] w fun e w' => e = .returned (.tuple #[]) ∧ Hid (Ff TH D w w' ∧ Calls Tryz.prog 157 #[.iface 175 (.pointer (some ⟨h, 0, none⟩)), .int .i64 0, .int .i64 n] w' fun e w2 => ∃ b, e = .returned (.bool b) ∧ Hid (Ff TH D w w2 ∧ Calls Tryz.prog 247 #[.pointer (some ⟨h, 0, none⟩)] w2 fun e w3 => e = .returned (.iface 3 (.int .i64 m)) ∧ Ff TH D w w3))) := by
    rw [hn] at HS
    refine HS.mono ?_
    rintro e w' ⟨rfl, r1, r2⟩
    refine ⟨rfl, r2, (down_heap r1 (by rw [List.length_set, List.length_set]; exact hl) (n := n) (by rw [List.length_set, List.length_set]; omega)).mono ?_⟩
    rintro e w2 ⟨b, l', rfl, p1, p2, p3, p4⟩
    refine ⟨b, rfl, r2.trans p4, (pop_any p1 (by rw [p2, List.length_set, List.length_set]; exact hl) (n := n) (by rw [p2, List.length_set, List.length_set]; exact hn) (z := m) (by rw [p3]; exact hg)).mono ?_⟩
    rintro e w3 ⟨rfl, s1⟩
    exact ⟨rfl, (r2.trans p4).trans s1⟩
  rw [hn] at hs hle
  have hnI : (n : Int) ≤ 500 := by omega
  have hpo := fun n (w2 : World) => run_m0 mrow_pop n ⟨h, 0, none⟩ w2
  clear HS q hz hg
  go_enter Tryz.func135, Tryz.ntmps135
  go_wp2_with fail
  refine Calls.mono HLen.out ?_
  rintro e w2 ⟨rfl, rfl⟩
  clear HLen hle
  go_wp2_with fail
  refine Calls.mono H1.out ?_
  rintro e w2 ⟨rfl, H2⟩
  have H3 : Hid _ := H2.out.2
  clear H1 H2 hs
  go_wp2_with fail
  refine Calls.mono H3.out ?_
  rintro e w3 ⟨b, rfl, H4⟩
  have H5 : Hid _ := H4.out.2
  clear H3 H4
  go_wp2_with fail
  refine Calls.mono H5.out ?_
  rintro e w4 ⟨rfl, H6⟩
  have H7 : Hid _ := H6
  clear H5 H6
  go_wp2_with fail
  go_ret
  exact ⟨rfl, H7.out⟩
end
end Go.Proofs.YtaefeakmlgjonaaGreat
/- newest, bare: what a range over all states gathers. -/
namespace Go.Proofs.YtaefeakmlgjonaaGreat
open Go.ChangeShapes Go.WideShapes Go.ChangeAt Go.RowKit Go.Maps Go.MapKept
set_option linter.unusedVariables false
set_option linter.unusedSimpArgs false
set_option maxRecDepth 100000
/-- The greatest of those that came by. -/
def Nst (L : List St) (left : Int → Bool) (fr f : Int) : Prop := (∀ y s, look L y = some s → left y = false → s.fr = fr → y ≤ f) ∧ (f = -1 ∨ ∃ s, look L f = some s ∧ s.fr = fr)
/-- From this one none was made, and it is not the one that is. -/
def Bare (m : Tr) (y : Int) : Prop := ∃ s, look m.L y = some s ∧ s.on = -1 ∧ y ≠ m.now
section
variable {Q : Nat → Prop} {B C t b : Nat} {q : Int → Nat} {m : Tr} {w w1 : World} {next : Int}
theorem Nst.end_ {L : List St} {left : Int → Bool} {fr f : Int} (h : Nst L left fr f) (hl : ∀ x, left x = false) (hs : (L.map St.seq).Pairwise (· < ·)) (F : ∀ y s, look L y = some s → 0 ≤ y) : f = newest L fr := by
  rcases newest_cases hs fr with ⟨e, h1⟩ | ⟨s, h1, h2, h3⟩
  · rw [e]
    rcases h.2 with q | ⟨s, q1, q2⟩
    · exact q
    · exact absurd q2 (h1 _ _ q1)
  · have g1 := h.1 _ _ h1 (hl _) h2
    have g2 := F _ _ h1
    rcases h.2 with q | ⟨s', q1, q2⟩
    · omega
    · have := h3 _ _ q1 q2; omega
theorem Nst.start (L : List St) {left : Int → Bool} (fr : Int) (hl : ∀ y, look L y ≠ none → left y = true) : Nst L left fr (-1) := ⟨fun y s h q _ => absurd q (by rw [hl y (by rw [h]; simp)]; simp), .inl rfl⟩
theorem Nst.step {L : List St} {left : Int → Bool} {fr f y : Int} {s : St} (h : Nst L left fr f) (hy : look L y = some s) :
    Nst L (fun z => left z && !decide (z = y)) fr (if s.fr = fr then max f y else f) := by
  constructor
  · intro z u hz hl hf
    simp only [Bool.and_eq_false_iff, Bool.not_eq_false', decide_eq_true_eq] at hl
    rcases hl with q | rfl
    · have := h.1 z u hz q hf
      split <;> omega
    · rw [hy] at hz; cases hz
      rw [if_pos hf]; omega
  · split
    · rename_i e
      rcases Int.le_total f y with p | p
      · rw [Int.max_eq_right p]; exact .inr ⟨s, hy, e⟩
      · rw [Int.max_eq_left p]; exact h.2
    · exact h.2
theorem ptr_some {L : List St} {q : Int → Nat} {y : Int} {v : Value} (h : ptrs L q y = some v) : ∃ s, look L y = some s ∧ v = .pointer (some ⟨q y, 0, none⟩) := by
  unfold ptrs at h
  obtain ⟨s, h1, h2⟩ := Option.map_eq_some_iff.1 h
  exact ⟨s, h1, h2.symm⟩
set_option maxHeartbeats 16000000 in
theorem newest_any (h : Tw Q B C t m w) (F : ∀ y s, look m.L y = some s → 0 ≤ y) (hs : (m.L.map St.seq).Pairwise (· < ·)) (fr : Int) :
    Calls Tryz.prog 156 #[.pointer (some ⟨t, 0, none⟩), .int .i64 fr] w fun e w' => e = .returned (.int .i64 (newest m.L fr)) ∧ Kp w w' := by
  obtain ⟨b, q, h⟩ := h
  have c0 := h.box.at (j := 0) rfl
  have hm := h.map
  have HH : Hid (Tb Q B C t b q m w ∧ (∀ y s, look m.L y = some s → 0 ≤ y) ∧ (m.L.map St.seq).Pairwise (· < ·)) := ⟨h, F, hs⟩
  clear h F hs
  go_enter Tryz.func156, Tryz.ntmps156
  go_wp2_with (first | (at_range; refine wpl_range rfl _ 117 124 rfl Tryz.underlying117 rfl hm ?_; intro w0 n0 hr0 hk0 hs0) | go_in)
  go_frame
  have G0 : Hid (Rgg b w.heap.size (ptrs m.L q) (fun x => (ptrs m.L q x).isSome) n0 w0 ∧ Kp w w0) := ⟨hr0, hk0⟩
  clear hr0 hk0 hs0 c0 hm
  go_loopw [5] (fun v5 wr => ∃ (f : Int) (left : Int → Bool) (c : Nat), v5 = .int .i64 f ∧ Hid (Rgg b w.heap.size (ptrs m.L q) left c wr ∧ Kp w wr ∧ Nst m.L left fr f)) (fun _ wr => wr.rangeLeft b w.heap.size)
  case atStart =>
    refine ⟨-1, _, n0, rfl, G0.out.1, G0.out.2, Nst.start _ _ fun y hy => ?_⟩
    obtain ⟨s, hs⟩ := Option.ne_none_iff_exists'.1 hy
    unfold ptrs; rw [hs]; rfl
  case round =>
    obtain ⟨f, left, c, rfl, HG⟩ := hrel
    clear G0
    have hrg := HG.out.1
    go_wp2_with (first | (at_next; refine wpl_next rfl _ rfl rfl hrg ?_ ?_) | go_in)
    · intro hl
      have HE : Hid (newest m.L fr = f ∧ Kp w wr) := ⟨(HG.out.2.2.end_ hl HH.out.2.2 HH.out.2.1).symm, HG.out.2.1⟩
      clear hl hrg HG
      go_wp2
      go_ret
      exact ⟨by rw [HE.out.1]; rfl, HE.out.2⟩
    · intro y v w2 c2 y0 y1 hly hy hr2 hlt2 hf2 hs2 hen
      obtain ⟨s, hls, rfl⟩ := ptr_some hy
      have k2 : Kp w w2 := HG.out.2.1.trans (hf2.below HG.out.2.1.size fun k hk e => by unfold On at e; omega)
      obtain ⟨hp, u, hb, _⟩ := HH.out.1.st y s hls
      have p0 := (hb.kp k2).at (j := 0) rfl
      have HN : Hid (Rgg b w.heap.size (ptrs m.L q) (fun z => left z && !decide (z = y)) c2 w2 ∧ Kp w w2 ∧ Nst m.L (fun z => left z && !decide (z = y)) fr (if s.fr = fr then max f y else f)) := ⟨hr2, k2, HG.out.2.2.step hls⟩
      have HME : Hid (w2.rangeLeft b w.heap.size < wr.rangeLeft b w.heap.size) := by rw [hr2.left_eq, hrg.left_eq]; exact hlt2
      clear hrg HG hly hy hr2 hlt2 hf2 hs2 hls hb hp k2
      by_cases e : s.fr = fr
      · have d1 : (s.fr == fr) = true := by simpa using e
        rw [if_pos e] at HN
        clear e
        go_wp2_with fail
        go_roundw
        case rel => exact ⟨max f y, _, c2, rfl, HN.out⟩
        case measure => exact HME.out
      · have d1 : (s.fr == fr) = false := by simpa using e
        rw [if_neg e] at HN
        clear e
        go_wp2_with fail
        go_roundw
        case rel => exact ⟨f, _, c2, rfl, HN.out⟩
        case measure => exact HME.out
end
end Go.Proofs.YtaefeakmlgjonaaGreat
/- bare: a heap of those that may go. -/
namespace Go.Proofs.YtaefeakmlgjonaaGreat
open Go.ChangeShapes Go.WideShapes Go.ChangeAt Go.RowKit Go.Maps Go.MapKept
set_option linter.unusedVariables false
set_option linter.unusedSimpArgs false
set_option maxRecDepth 100000
theorem Rgg.ff {b r c : Nat} {f : Int → Option Value} {left : Int → Bool} {w w1 : World} {D : Nat} (h : Rgg b r f left c w) (k : Ff TH D w w1) : Rgg b r f left c w1 := by
  have h0 := h
  obtain ⟨es, cl, s, q, c0, hb, _, _, hr, _⟩ := h0
  exact h.heap ((k.keep hb (fun e => e.elim)).trans hb.symm) ((k.keep hr (fun e => e.elim)).trans hr.symm)
/-- While they are gathered. -/
def Brg (m : Tr) (b r h D : Nat) (f : Int → Option Value) (left : Int → Bool) (c : Nat) (w wr : World) : Prop :=
  ∃ l ss, Rgg b r f left c wr ∧ Hw D h l wr ∧ Hmin l ∧ Cld f left ss ∧ l.length ≤ ss.length ∧ (∀ y, y ∈ l ↔ Bare m y ∧ left y = false) ∧ Kp w wr ∧ D ≤ wr.heap.size
section
variable {Q : Nat → Prop} {B C t b r : Nat} {q : Int → Nat} {m : Tr} {w w1 : World} {next : Int}
theorem box_ne {h : Nat} {l : List Int} {f : Int → Option Value} {left : Int → Bool} {c D : Nat} (hw : Hw D h l w) (hr : Rgg b r f left c w) : ∀ j cur e fr, On r j → w.heap[j]? = some (.cells cur e fr) → e ≠ 179 ∧ e ≠ 3 := fun j cur e fr ho hj => by
  unfold On at ho; subst ho
  obtain ⟨es, cl, s, q, c0, hb, _, _, hr, _⟩ := hr
  rw [hr] at hj; cases hj
theorem Hw.fr {D h : Nat} {l : List Int} {S : Nat → Prop} (hw : Hw D h l w) (k : Fr S w w1) (hS : ∀ j cur e fr, S j → w.heap[j]? = some (.cells cur e fr) → e ≠ 179 ∧ e ≠ 3) : Hw D h l w1 := by
  obtain ⟨v, hq⟩ := hw; exact ⟨v, hq.fr k hS⟩
set_option maxHeartbeats 16000000 in
theorem bare_any (h : Tw Q B C t m w) (F : Fam m.L m.next) (hn : m.next ≤ 10000) (hl : m.L.length ≤ 250) :
    Calls Tryz.prog 131 #[.pointer (some ⟨t, 0, none⟩)] w fun e w' => ∃ h l, e = .returned (.pointer (some ⟨h, 0, none⟩)) ∧ Hw w.heap.size h l w' ∧ Hmin l ∧ l.length ≤ 250 ∧ (∀ y, y ∈ l ↔ Bare m y) ∧ Kp w w' := by
  obtain ⟨b, q, h⟩ := h
  have HKF : Hid (Kfew (ptrs m.L q)) := kfew_of hl
  obtain ⟨W0, hW0⟩ : ∃ W0, w.alloc (.cells #[.slice none 0 0] 179) = W0 := ⟨_, rfl⟩
  have k0 : Kp w W0 := by rw [← hW0]; exact kp_alloc _ _
  have hw0 : Hw w.heap.size w.heap.size [] W0 := by rw [← hW0]; exact ⟨.slice none 0 0, Nat.le_refl _, Lc.new w [.slice none 0 0] 179, World.ownsRow_nil _ _ _ _⟩
  have hz0 : W0.heap.size = w.heap.size + 1 := by rw [← hW0]; exact alloc_size _ _
  have c0 := (h.kp k0).box.at (j := 0) rfl
  have hm := (h.kp k0).map
  have HH : Hid (Tb Q B C t b q m w ∧ Fam m.L m.next ∧ m.next ≤ 10000 ∧ Hw w.heap.size w.heap.size [] W0 ∧ Kp w W0 ∧ W0.heap.size = w.heap.size + 1) := ⟨h, F, hn, hw0, k0, hz0⟩
  have HW : Hid (_ = W0) := hW0
  clear h F hn hl k0 hw0 hz0 hW0
  go_enter Tryz.func131, Tryz.ntmps131
  go_upto_region 2 with fail
  rw [HW.out]
  go_wp2_with (first | (at_range; refine wpl_range rfl _ 117 124 rfl Tryz.underlying117 rfl hm ?_; intro w0 n0 hr0 hk0 hs0) | go_in)
  go_frame
  have G0 : Hid (Brg m b W0.heap.size w.heap.size w.heap.size (ptrs m.L q) (fun x => (ptrs m.L q x).isSome) n0 w w0) := by
    refine ⟨[], [], hr0, HH.out.2.2.2.1.kp hk0, (fun m hm => by cases hm), Cld.start _, Nat.le_refl _, fun y => ⟨(fun h => by cases h), fun h => ?_⟩, kp_trans HH.out.2.2.2.2.1 hk0, Nat.le_trans HH.out.2.2.2.2.1.size hk0.size⟩
    obtain ⟨⟨s, h1, _⟩, h2⟩ := h
    have h3 : (ptrs m.L q y).isSome = false := h2
    unfold ptrs at h3; rw [h1] at h3; cases h3
  have hrs : W0.heap.size = w.heap.size + 1 := HH.out.2.2.2.2.2
  rw [hrs] at G0 ⊢
  clear hr0 hk0 hs0 c0 hm hrs
  go_loopw [] (fun wr => ∃ (left : Int → Bool) (c : Nat), Hid (Brg m b (w.heap.size + 1) w.heap.size w.heap.size (ptrs m.L q) left c w wr)) (fun wr => wr.rangeLeft b (w.heap.size + 1))
  case atStart => exact ⟨_, n0, G0⟩
  case round =>
    obtain ⟨left, c, HG⟩ := hrel
    clear G0
    obtain ⟨l, ss, hrg, hwl, hmn, hcl, hln, hmem, hkp, hsz⟩ := HG.out
    have HL : Hid (Hw w.heap.size w.heap.size l wr ∧ Hmin l ∧ Cld (ptrs m.L q) left ss ∧ l.length ≤ ss.length ∧ (∀ y, y ∈ l ↔ Bare m y ∧ left y = false) ∧ Kp w wr ∧ w.heap.size ≤ wr.heap.size) := ⟨hwl, hmn, hcl, hln, hmem, hkp, hsz⟩
    clear hwl hmn hcl hln hmem hkp hsz HG
    go_wp2_with (first | (at_next; refine wpl_next rfl _ rfl rfl hrg ?_ ?_) | go_in)
    · intro hl
      have HE : Hid (∃ l, Hw w.heap.size w.heap.size l wr ∧ Hmin l ∧ l.length ≤ 250 ∧ (∀ y, y ∈ l ↔ Bare m y) ∧ Kp w wr) := by
        obtain ⟨x1, x2, x3, x4, x5, x6, x7⟩ := HL.out
        refine ⟨l, x1, x2, ?_, fun y => ?_, x6⟩
        · have := HKF.out ss x3.1 (fun y hy => ((x3.2 y).1 hy).1); omega
        · rw [x5 y]; exact ⟨fun h => h.1, fun h => ⟨h, hl y⟩⟩
      clear hl hrg HL
      go_wp2
      go_ret
      obtain ⟨l, x⟩ := HE.out
      exact ⟨_, l, rfl, x⟩
    · intro y v w2 c2 y0 y1 hly hy hr2 hlt2 hf2 hs2 hen
      obtain ⟨s, hls, rfl⟩ := ptr_some hy
      obtain ⟨x1, x2, x3, x4, x5, x6, x7⟩ := HL.out
      have k2 : Kp w w2 := x6.trans (hf2.below x6.size fun k hk e => by unfold On at e; omega)
      have hw2 := x1.fr hf2 (box_ne x1 hrg)
      have hcs := x3.step hly (by rw [hy]; simp)
      have hlen := HKF.out _ hcs.1 (fun z hz => ((hcs.2 z).1 hz).1)
      rw [List.length_append, List.length_singleton] at hlen
      have hnl : y ∉ l := fun q => by have := ((x5 y).1 q).2; rw [hly] at this; cases this
      have bx0 := (HH.out.1.kp k2).box
      have c0 := bx0.at (j := 0) rfl
      have c1 := bx0.at (j := 1) rfl
      obtain ⟨hp, u, hb, _⟩ := HH.out.1.st y s hls
      have p1 := (hb.kp k2).at (j := 1) rfl
      have HME : Hid (c2 < c) := hlt2
      have hme : wr.rangeLeft b (w.heap.size + 1) = c := hrg.left_eq
      by_cases e : s.on = -1 ∧ y ≠ m.now
      · have d1 : (s.on == -1) = true := by rw [e.1]; rfl
        have d2 : (y != m.now) = true := by simpa using e.2
        have HP : Hid _ := pushH_any hw2 (by omega) (Nat.le_trans x7 (by omega)) x2 y
        have HN : Hid (∀ w3 l', Hw w.heap.size w.heap.size l' w3 → Hmin l' → l'.length = l.length + 1 → (∀ z, z ∈ l' ↔ z = y ∨ z ∈ l) → Ff TH w.heap.size w2 w3 → Brg m b (w.heap.size + 1) w.heap.size w.heap.size (ptrs m.L q) (fun z => left z && !decide (z = y)) c2 w w3) := fun w3 l' z1 z2 z3 z4 z5 => by
          refine ⟨l', _, hr2.ff z5, z1, z2, hcs, by rw [List.length_append, List.length_singleton]; omega, fun z => ?_, k2.trans (z5.below k2.size), Nat.le_trans k2.size z5.size⟩
          rw [z4 z, x5 z]
          simp only [Bool.and_eq_false_iff, Bool.not_eq_false', decide_eq_true_eq]
          constructor
          · rintro (rfl | ⟨q1, q2⟩)
            · exact ⟨⟨s, hls, e⟩, .inr rfl⟩
            · exact ⟨q1, .inl q2⟩
          · rintro ⟨q1, q2 | rfl⟩
            · exact .inr ⟨q1, q2⟩
            · exact .inl rfl
        clear hrg hly hy hr2 hlt2 hf2 hs2 hls hb hp k2 x1 x2 x3 x4 x5 x6 x7 HL hcs hlen hnl bx0 e hw2
        go_wp2_with fail
        refine Calls.mono HP.out ?_
        rintro e w3 ⟨rfl, l', z1, z2, z3, z4, z5⟩
        have HX : Hid (Brg m b (w.heap.size + 1) w.heap.size w.heap.size (ptrs m.L q) (fun z => left z && !decide (z = y)) c2 w w3) := HN.out w3 l' z1 z2 z3 z4 z5
        clear z1 z2 z3 z4 z5 HN HP
        go_wp2_with fail
        go_roundw
        case rel => exact ⟨_, c2, HX⟩
        case measure =>
          obtain ⟨_, _, hrg, _⟩ := HX.out
          rw [hrg.left_eq, hme]; exact HME.out
      · have HX : Hid (∀ k, Brg m b (w.heap.size + 1) w.heap.size w.heap.size (ptrs m.L q) (fun z => left z && !decide (z = y)) c2 w (w2.drewN k)) := fun k => by
          refine ⟨l, _, hr2.kp (kp_drewN _ _), hw2.kp (kp_drewN _ _), x2, hcs, by rw [List.length_append, List.length_singleton]; omega, fun z => ?_, kp_trans k2 (kp_drewN _ _), Nat.le_trans k2.size (kp_drewN w2 k).size⟩
          rw [x5 z]
          simp only [Bool.and_eq_false_iff, Bool.not_eq_false', decide_eq_true_eq]
          constructor
          · rintro ⟨q1, q2⟩; exact ⟨q1, .inl q2⟩
          · rintro ⟨q1, q2 | rfl⟩
            · exact ⟨q1, q2⟩
            · obtain ⟨s', h1, h2⟩ := q1
              rw [hls] at h1; cases h1
              exact absurd h2 e
        have HD : Hid (s.on ≠ -1 ∨ (s.on = -1 ∧ y = m.now)) := by
          by_cases p : s.on = -1
          · exact .inr ⟨p, Classical.byContradiction fun n => e ⟨p, n⟩⟩
          · exact .inl p
        clear hrg hly hy hr2 hlt2 hf2 hs2 hls hb hp k2 x1 x2 x3 x4 x5 x6 x7 HL hcs hlen hnl bx0 e hw2
        rcases HD.out with p | ⟨p, p2⟩
        · have d1 : (s.on == -1) = false := by simpa using p
          clear p HD
          go_wp2_with fail
          go_roundw
          case rel => exact ⟨_, c2, HX.out 0⟩
          case measure =>
            obtain ⟨_, _, hrg, _⟩ := HX.out 0
            have := hrg.left_eq
            rw [hme]; show w2.rangeLeft b (w.heap.size + 1) < c
            rw [show w2.rangeLeft b (w.heap.size + 1) = c2 from this]; exact HME.out
        · have d1 : (s.on == -1) = true := by rw [p]; rfl
          have d2 : (y != m.now) = false := by simp [p2]
          clear p p2 HD
          go_wp2_with fail
          go_roundw
          case rel => exact ⟨_, c2, HX.out 0⟩
          case measure =>
            obtain ⟨_, _, hrg, _⟩ := HX.out 0
            have := hrg.left_eq
            rw [hme]; show w2.rangeLeft b (w.heap.size + 1) < c
            rw [show w2.rangeLeft b (w.heap.size + 1) = c2 from this]; exact HME.out
end
end Go.Proofs.YtaefeakmlgjonaaGreat
/- drop, dropFirst. -/
namespace Go.Proofs.YtaefeakmlgjonaaGreat
open Go.ChangeShapes Go.WideShapes Go.ChangeAt Go.RowKit Go.Maps Go.MapKept
set_option linter.unusedVariables false
set_option linter.unusedSimpArgs false
set_option maxRecDepth 100000
/-- Taken out. -/
theorem Mp.drop {b : Nat} {f : Int → Option Value} {w : World} (h : Mp b f w) {x : Int} (h0 : -9223372036854775808 ≤ x) (h1 : x < 9223372036854775808) {t e : TypeId} (ht : Tryz.prog.underlying t = some (.map 3 e)) :
    ∃ w', (∀ ty, (Builtin.delete_ #[t, 3] ty #[.map (some b), .int .i64 x]).run Tryz.prog w = .ok (.tuple #[]) w') ∧ Mp b (upd f x none) w' ∧ Fr (On b) w w' ∧ w'.heap.size = w.heap.size := by
  have hl := h.lt
  obtain ⟨es, c, hb, S, H⟩ := h
  obtain ⟨es', hr, S', H', _⟩ := drop_who (ty := 0) hb S H h0 h1 ht
  refine ⟨_, fun ty => ?_, ⟨es', c, Go.ChangeMaps.heap_setBlock_same hb _, S', H'⟩, fr_block w b _ hl, by simp [Go.ChangeMaps.setBlock]⟩
  exact hr
section
variable {Q : Nat → Prop} {B C t b : Nat} {q : Int → Nat} {m : Tr} {w w1 : World} {x : Int} {s : St}
/-- A state is taken out. -/
theorem Tb.drop (h : Tb Q B C t b q m w) {x : Int} (h0 : -9223372036854775808 ≤ x) (h1 : x < 9223372036854775808) (hne : look m.L x ≠ none) (L' : List St) (hL : ∀ y, look L' y = if y = x then none else look m.L y) :
    ∃ w', (∀ ty, (Builtin.delete_ #[117, 3] ty #[.map (some b), .int .i64 x]).run Tryz.prog w = .ok (.tuple #[]) w') ∧ Tb Q B C t b q { m with L := L' } w' ∧ Ff TP B w w' ∧ Fr (On b) w w' := by
  obtain ⟨w', hr, hm, f, hz⟩ := h.map.drop h0 h1 Tryz.underlying117
  obtain ⟨es, cl, hmb, _⟩ := h.map
  have e : ptrs L' q = upd (ptrs m.L q) x none := by
    funext y; unfold ptrs upd; rw [hL]
    by_cases c : y = x
    · rw [if_pos c, if_pos c]; rfl
    · rw [if_neg c, if_neg c]
  have hy0 : ∀ y s, look L' y = some s → look m.L y = some s := fun y s hy => by
    rw [hL] at hy
    by_cases c : y = x
    · rw [if_pos c] at hy; cases hy
    · rw [if_neg c] at hy; exact hy
  refine ⟨w', hr, ⟨h.lt, h.lb, h.box.fr f (h.map.ne h.box), by show Mp b (ptrs L' q) w'; rw [e]; exact hm, fun y s hy => (h.st y s (hy0 y s hy)).onMap f hmb, fun y z hy hz e => ?_⟩, Ff.on f h.lb hmb (h.key hne hmb), f⟩
  obtain ⟨s1, q1⟩ := Option.ne_none_iff_exists'.1 hy
  obtain ⟨s2, q2⟩ := Option.ne_none_iff_exists'.1 hz
  exact h.inj y z (by rw [hy0 _ _ q1]; simp) (by rw [hy0 _ _ q2]; simp) e
set_option maxHeartbeats 8000000 in
theorem drop_any (h : Tw Q B C t m w) (I : Inw m) (hn : m.next ≤ 10000) (hx : look m.L x = some s) (ho : s.on = -1) (hne : x ≠ m.now) :
    Calls Tryz.prog 134 #[.pointer (some ⟨t, 0, none⟩), .int .i64 x] w fun e w' => e = .returned (.tuple #[]) ∧ Tw Q B C t { m with L := cutT m.L x s.fr } w' ∧ Ff TP B w w' := by
  have F := I.inv.fam
  have hf := bare_fr F I.onk I.inv.nw hx ho hne
  have hxf := F.fr _ _ hx
  have hfx : s.fr ≠ x := by omega
  obtain ⟨p, hp⟩ := Option.ne_none_iff_exists'.1 (F.from_there hx hf)
  have hp2 : look (dropL m.L x) s.fr = some p := by rw [look_drop, if_neg hfx]; exact hp
  obtain ⟨b, q, h⟩ := h
  have c0 := h.box.at (j := 0) rfl
  have hk1 := h.get (x := x) (by omega) (by omega) hx w (Below.refl _ _)
  obtain ⟨_, u1, hb1, _⟩ := h.st _ _ hx
  have p0 := hb1.at (j := 0) rfl
  obtain ⟨w1, hdl, h1, f1, _⟩ := h.drop (x := x) (by omega) (by omega) (by rw [hx]; simp) (dropL m.L x) (look_drop m.L x)
  have c1 := h1.box.at (j := 0) rfl
  have hk2 := h1.get (x := s.fr) (by omega) (by omega) hp2 w1 (Below.refl _ _)
  obtain ⟨_, u2, hb2, _⟩ := h1.st _ _ hp2
  have p1 := hb2.at (j := 1) rfl
  have HN : Hid _ := newest_any (m := { m with L := dropL m.L x }) ⟨b, q, h1⟩ (fun y s' hy => by
    have hy' : look (dropL m.L x) y = some s' := hy
    rw [look_drop] at hy'
    split at hy'
    · cases hy'
    · exact (F.fr _ _ hy').2.2.1) (drop_sorted I.inv.sq x) s.fr
  have HT : Hid (Tb Q B C t b q { m with L := dropL m.L x } w1 ∧ Ff TP B w w1 ∧ look (dropL m.L x) s.fr = some p) := ⟨h1, f1, hp2⟩
  clear h hx hb1 h1 f1 hp2 hb2 hp I F
  go_enter Tryz.func134, Tryz.ntmps134
  by_cases e : p.on = x
  · have d1 : (p.on == x) = true := by simpa using e
    have HE : Hid (p.on = x) := e
    clear e
    go_wp2_with fail
    refine Calls.mono HN.out ?_
    rintro e w2 ⟨rfl, k2⟩
    have f2 := ((HT.out.1.kp k2).st _ _ HT.out.2.2)
    obtain ⟨_, u3, hb3, _⟩ := f2
    have g1 := hb3.fz 1
    have g2 := hb3.at (j := 1) rfl
    have HX : Hid (Tw Q B C t { m with L := cutT m.L x s.fr } (w2.setCell ⟨q s.fr, 1, none⟩ (.int .i64 (newest (dropL m.L x) s.fr))) ∧ Ff TP B w (w2.setCell ⟨q s.fr, 1, none⟩ (.int .i64 (newest (dropL m.L x) s.fr)))) := by
      obtain ⟨r1, r2⟩ := (HT.out.1.kp k2).on (x := s.fr) (by show look (dropL m.L x) s.fr ≠ none; rw [HT.out.2.2]; simp) (newest (dropL m.L x) s.fr)
      refine ⟨⟨b, q, ?_⟩, (HT.out.2.1.trans (Ff.kp k2)).trans r2⟩
      have e1 : cutT m.L x s.fr = setOn (dropL m.L x) s.fr (newest (dropL m.L x) s.fr) := by unfold cutT; rw [HT.out.2.2]; exact if_pos HE.out
      rw [e1]; exact r1
    clear hb3 k2 HN c0 hk1 p0 hdl c1 hk2 p1
    go_wp2_with fail
    go_end0
    exact ⟨rfl, HX.out⟩
  · have d1 : (p.on == x) = false := by simpa using e
    have HX : Hid (Tw Q B C t { m with L := cutT m.L x s.fr } w1 ∧ Ff TP B w w1) := by
      have e1 : cutT m.L x s.fr = dropL m.L x := by unfold cutT; rw [HT.out.2.2]; exact if_neg e
      rw [e1]; exact ⟨⟨b, q, HT.out.1⟩, HT.out.2.1⟩
    clear e HN
    go_wp2_with fail
    go_end0
    exact ⟨rfl, HX.out⟩
end
end Go.Proofs.YtaefeakmlgjonaaGreat
/- dropFirst, letGo. -/
namespace Go.Proofs.YtaefeakmlgjonaaGreat
open Go.ChangeShapes Go.WideShapes Go.ChangeAt Go.RowKit Go.Maps Go.MapKept
set_option linter.unusedVariables false
set_option linter.unusedSimpArgs false
set_option maxRecDepth 100000
theorem find_least {p : St → Bool} : ∀ {L : List St}, (L.map St.seq).Pairwise (· < ·) → ∀ {s}, L.find? p = some s → ∀ a ∈ L, p a = true → s.seq ≤ a.seq
  | [], _, _, h, _, _, _ => by cases h
  | c :: L, hs, s, h, a, ha, hp => by
    rw [List.map_cons, List.pairwise_cons] at hs
    rw [List.find?_cons] at h
    cases e : p c with
    | true =>
      rw [e] at h; cases h
      rcases List.mem_cons.1 ha with rfl | ha
      · exact Int.le_refl _
      · have := hs.1 a.seq (List.mem_map.2 ⟨a, ha, rfl⟩); omega
    | false =>
      rw [e] at h
      rcases List.mem_cons.1 ha with rfl | ha
      · rw [e] at hp; cases hp
      · exact find_least hs.2 h a ha hp
section
variable {Q : Nat → Prop} {B C t b : Nat} {q : Int → Nat} {m : Tr} {w w1 : World} {x : Int} {s : St}
/-- A state is made from none, and by nothing. -/
theorem Tb.bare (h : Tb Q B C t b q m w) {x : Int} (hx : look m.L x ≠ none) (L' : List St) (hL : ∀ y, look L' y = (look m.L y).map fun s => if y = x then { s with fr := -1, by_ := [] } else s) :
    Tb Q B C t b q { m with L := L' } ((w.setCell ⟨q x, 0, none⟩ (.int .i64 (-1))).setCell ⟨q x, 2, none⟩ (.slice none 0 0)) ∧ Ff TP B w ((w.setCell ⟨q x, 0, none⟩ (.int .i64 (-1))).setCell ⟨q x, 2, none⟩ (.slice none 0 0)) := by
  obtain ⟨s, hs⟩ := Option.ne_none_iff_exists'.1 hx
  obtain ⟨hp, v, h2, h3, h4⟩ := h.st x s hs
  have f := (fr_set (q x) 0 (.int .i64 (-1)) w).trans (fr_set (q x) 2 (.slice none 0 0) _)
  have hne : b ≠ q x := Ne.symm (h.map.ne h2)
  have ht : t ≠ q x := lc_ne h.box h2 (by decide)
  have hn : ∀ y, look L' y ≠ none → look m.L y ≠ none := fun y hy e => hy (by rw [hL, e]; rfl)
  have ep : ptrs L' q = ptrs m.L q := by
    funext y; unfold ptrs; rw [hL]
    cases look m.L y <;> rfl
  refine ⟨⟨h.lt, h.lb, h.box.fr f ht, by show Mp b (ptrs L' q) _; rw [ep]; exact h.map.fr f hne, fun z s' hz => ?_, fun a c h1 h2 h3 => h.inj a c (hn _ h1) (hn _ h2) h3⟩, Ff.on f hp h2 (.inr rfl)⟩
  have hz' : look L' z = some s' := hz
  rw [hL] at hz'
  obtain ⟨s0, hs0, rfl⟩ := Option.map_eq_some_iff.1 hz'
  by_cases e : z = x
  · subst e
    rw [if_pos rfl]
    rw [hs] at hs0; cases hs0
    exact ⟨hp, .slice none 0 0, (h2.set 0 _).set 2 _, Dx.nil _ _ _, fun j hj => by cases hj⟩
  · rw [if_neg e]
    exact (h.st z s0 hs0).on f h2 (fun e2 => e (h.inj z x (by rw [hs0]; simp) hx e2)) (by decide) (by decide)
set_option maxHeartbeats 8000000 in
theorem dropFirst_any (h : Tw Q B C t m w) (I : Inw m) (hn : m.next ≤ 10000) (hl : m.L.length ≤ 250) (h2 : 2 ≤ m.L.length) (H : Full m.L m.now) :
    Calls Tryz.prog 133 #[.pointer (some ⟨t, 0, none⟩)] w fun e w' => e = .returned (.tuple #[]) ∧ Tw Q B C t { m with L := rootT m.L } w' ∧ Ff TP B w w' := by
  obtain ⟨r, M, hL⟩ : ∃ r M, m.L = r :: M := by cases e : m.L with | nil => rw [e] at h2; simp at h2 | cons r M => exact ⟨r, M, rfl⟩
  have hM : M ≠ [] := by rintro rfl; rw [hL] at h2; simp at h2
  obtain ⟨_, hrn, bb, hbl, hbf, hlk⟩ := inw_root I hL hM H
  have F := I.inv.fam
  have hr : look m.L r.seq = some r := by rw [hL, look_cons, if_pos rfl]
  have g0 := F.fr _ _ hr
  have g1 := F.fr _ _ hbl
  have hne : r.on ≠ r.seq := fun e => by rw [e, hr] at hbl; cases hbl; omega
  have HN : Hid _ := numbers_any h hl I.inv.sq
  obtain ⟨b, q, h⟩ := h
  have HT : Hid (Tb Q B C t b q m w ∧ look m.L r.seq = some r ∧ look m.L r.on = some bb ∧ r.on ≠ r.seq ∧ ∀ y, look (rootT m.L) y = if y = r.seq then none else (look m.L y).map fun s => if y = r.on then { s with fr := -1, by_ := [] } else s) := ⟨h, hr, hbl, hne, hlk⟩
  have hr0 : -9223372036854775808 ≤ r.seq ∧ r.seq < 9223372036854775808 := by omega
  have hb0 : -9223372036854775808 ≤ r.on ∧ r.on < 9223372036854775808 := by omega
  have hz : (m.L.map St.seq)[0]? = some r.seq := by rw [hL]; rfl
  have hlen : 0 < (m.L.map St.seq).length := by rw [hL]; simp
  clear h hr hbl hlk hne F H I hL hM h2 hl hn hbf hrn g0 g1
  go_enter Tryz.func133, Tryz.ntmps133
  go_wp2_with fail
  refine Calls.mono HN.out ?_
  rintro e w1 ⟨v, rfl, hi, k1⟩
  obtain ⟨g, c, rfl, _, _, _, hcl, _⟩ := ir_cells hi (by intro e; rw [e] at hz; cases hz)
  have c1 := hcl _ _ hz
  have T1 := HT.out.1.kp k1
  have c0 := T1.box.at (j := 0) rfl
  have hk1 := fun k => T1.get hr0.1 hr0.2 HT.out.2.1 (w1.drewN k) (kp_drewN _ _)
  have hk2 := fun k => T1.get hb0.1 hb0.2 HT.out.2.2.1 (w1.drewN k) (kp_drewN _ _)
  obtain ⟨_, u1, hb1, _⟩ := T1.st _ _ HT.out.2.1
  have p1 := hb1.at (j := 1) rfl
  have HK : Hid (Kp w w1) := k1
  have hlI : (0 : Int) < ((m.L.map St.seq).length : Int) := by omega
  have HT1 : Hid (Tb Q B C t b q m w1) := T1
  generalize (m.L.map St.seq).length = N at hlen hlI
  clear hi hcl hz T1 hb1 k1 HN
  go_wp2_with fail
  go_quiet (fail)
  obtain ⟨W2, hW2⟩ : ∃ W2, w1.drewN nq = W2 := ⟨_, rfl⟩
  have T2 : Tb Q B C t b q m W2 := by rw [← hW2]; exact HT1.out.kp (kp_drewN _ _)
  have K2 : Hid (Kp w W2) := by rw [← hW2]; exact kp_trans HK.out (kp_drewN _ _)
  rw [hW2]
  obtain ⟨w3, hdl, T3, f3, _⟩ := T2.drop hr0.1 hr0.2 (by rw [HT.out.2.1]; simp) (dropL m.L r.seq) (look_drop _ _)
  have c0' := T2.box.at (j := 0) rfl
  have hbl3 : look (dropL m.L r.seq) r.on = some bb := by rw [look_drop, if_neg HT.out.2.2.2.1]; exact HT.out.2.2.1
  obtain ⟨_, u3, hb3, _⟩ := T3.st _ _ hbl3
  have z0 := hb3.at (j := 0) rfl
  have z2 := hb3.at (j := 2) rfl
  have y0 := hb3.fz 0
  have y2 := hb3.fz 2
  have HX : Hid (Tw Q B C t { m with L := rootT m.L } ((w3.setCell ⟨q r.on, 0, none⟩ (.int .i64 (-1))).setCell ⟨q r.on, 2, none⟩ (.slice none 0 0)) ∧ Ff TP B w ((w3.setCell ⟨q r.on, 0, none⟩ (.int .i64 (-1))).setCell ⟨q r.on, 2, none⟩ (.slice none 0 0))) := by
    obtain ⟨r1, r2⟩ := T3.bare (x := r.on) (by show look (dropL m.L r.seq) r.on ≠ none; rw [hbl3]; simp) (rootT m.L) (fun y => by
      show _ = (look (dropL m.L r.seq) y).map _
      rw [HT.out.2.2.2.2 y, look_drop]
      by_cases e : y = r.seq
      · rw [if_pos e, if_pos e]; rfl
      · rw [if_neg e, if_neg e])
    exact ⟨⟨b, q, r1⟩, ((Ff.kp K2.out).trans f3).trans r2⟩
  clear T2 T3 f3 hb3 hbl3 hW2 c0 c1 hk1 hk2 p1
  go_wp2_with fail
  go_end0
  exact ⟨rfl, HX.out⟩
end
end Go.Proofs.YtaefeakmlgjonaaGreat
/- letGo. -/
namespace Go.Proofs.YtaefeakmlgjonaaGreat
open Go.ChangeShapes Go.WideShapes Go.ChangeAt Go.RowKit Go.Maps Go.MapKept
set_option linter.unusedVariables false
set_option linter.unusedSimpArgs false
set_option maxRecDepth 100000
section
variable {Q : Nat → Prop} {B C t : Nat} {m : Tr} {w w1 : World}
set_option maxHeartbeats 8000000 in
theorem letGo_any (h : Tw Q B C t m w) (I : Inw m) (hn : m.next ≤ 10000) (hl : m.L.length ≤ 250) (h2 : 2 ≤ m.L.length) :
    Calls Tryz.prog 91 #[.pointer (some ⟨t, 0, none⟩)] w fun e w' => e = .returned (.tuple #[]) ∧ Tw Q B C t (evT m) w' ∧ Ff TP B w w' := by
  have HB : Hid _ := bare_any h I.inv.fam hn hl
  have HT : Hid (Tw Q B C t m w ∧ Inw m ∧ m.next ≤ 10000 ∧ m.L.length ≤ 250 ∧ 2 ≤ m.L.length) := ⟨h, I, hn, hl, h2⟩
  clear h I hn hl h2
  go_enter Tryz.func91, Tryz.ntmps91
  go_wp2_with fail
  refine Calls.mono HB.out ?_
  rintro e w1 ⟨hp, l, rfl, hw, hmin, hlen, hmem, k1⟩
  obtain ⟨v, hq⟩ := hw
  obtain ⟨a, c, rfl, _⟩ := hq.row.form
  have c0 := hq.box.at (j := 0) rfl
  have HLen : Hid _ := len_any a l.length c w1
  cases hfd : m.L.find? (bareP m) with
  | none =>
    have hfull := bare_none hfd
    have hnil : l = [] := by
      rw [List.eq_nil_iff_forall_not_mem]
      intro y hy
      obtain ⟨s, h1, h2, h3⟩ := (hmem y).1 hy
      exact hfull y s h1 h3 h2
    subst hnil
    have HD : Hid (Calls Tryz.prog 133 #[.pointer (some ⟨t, 0, none⟩)] w1 fun e w' => e = .returned (.tuple #[]) ∧ Tw Q B C t (evT m) w' ∧ Ff TP B w w') := by
      refine (dropFirst_any (HT.out.1.kp k1) HT.out.2.1 HT.out.2.2.1 HT.out.2.2.2.1 HT.out.2.2.2.2 hfull).mono ?_
      rintro e w' ⟨rfl, r1, r2⟩
      rw [ev_none hfd]
      exact ⟨rfl, r1, (Ff.kp k1).trans r2⟩
    clear HB hq hmin hlen hmem k1 hfd hfull
    go_wp2_with fail
    refine Calls.mono HLen.out ?_
    rintro e w2 ⟨rfl, rfl⟩
    clear HLen
    go_wp2_with fail
    refine Calls.mono HD.out ?_
    rintro e w2 ⟨rfl, r⟩
    have HR : Hid _ := r
    clear HD r
    go_wp2_with fail
    refine bodyPost_ret (results_none rfl _ _ _) rfl ?_
    exact ⟨rfl, HR.out⟩
  | some s =>
    obtain ⟨s1, s2, s3⟩ := bare_some hfd
    have hls := mem_look HT.out.2.1.inv.sq s1
    have hsl : s.seq ∈ l := (hmem _).2 ⟨s, hls, s2, s3⟩
    obtain ⟨n, hn⟩ : ∃ n, l.length = n + 1 := ⟨l.length - 1, by have := List.length_pos_of_mem hsl; omega⟩
    obtain ⟨m0, hm0⟩ : ∃ y, l[0]? = some y := ⟨_, List.getElem?_eq_getElem (by omega)⟩
    have e0 : m0 = s.seq := by
      have g1 := hmin m0 hm0 _ hsl
      obtain ⟨s', q1, q2, q3⟩ := (hmem m0).1 (List.mem_of_getElem? hm0)
      have g2 := find_least HT.out.2.1.inv.sq hfd s' (look_mem q1) (by rw [← look_seq q1] at q3; simp [bareP, q2, q3])
      rw [look_seq q1] at g2; omega
    subst e0
    have HP : Hid (Calls Tryz.prog 135 #[.iface 175 (.pointer (some ⟨hp, 0, none⟩))] w1 fun e w2 => e = .returned (.iface 3 (.int .i64 s.seq)) ∧ Hid (Calls Tryz.prog 134 #[.pointer (some ⟨t, 0, none⟩), .int .i64 s.seq] w2 fun e w' => e = .returned (.tuple #[]) ∧ Tw Q B C t (evT m) w' ∧ Ff TP B w w')) := by
      refine (popH_any ⟨_, hq⟩ (by omega) hn hm0).mono ?_
      rintro e w2 ⟨rfl, f⟩
      have k2 : Kp w w2 := k1.trans (f.below k1.size)
      refine ⟨rfl, (drop_any (HT.out.1.kp k2) HT.out.2.1 HT.out.2.2.1 hls s2 s3).mono ?_⟩
      rintro e w' ⟨rfl, r1, r2⟩
      rw [ev_some hfd]
      exact ⟨rfl, r1, (Ff.kp k2).trans r2⟩
    rw [hn] at c0 HLen
    have d1 : ((n : Int) + 1 == 0) = false := beq_eq_false_iff_ne.2 (by omega)
    have hti := asInt s.seq
    clear HB hq hmin hlen hmem k1 hfd s1 s2 s3 hls hsl hm0 hn
    go_wp2_with fail
    refine Calls.mono HLen.out ?_
    rintro e w2 ⟨rfl, rfl⟩
    clear HLen
    go_wp2_with fail
    refine Calls.mono HP.out ?_
    rintro e w2 ⟨rfl, r⟩
    have HR : Hid _ := r.out
    clear HP r
    go_wp2_with fail
    refine Calls.mono HR.out ?_
    rintro e w2 ⟨rfl, r⟩
    have HE : Hid _ := r
    clear HR r
    go_wp2_with fail
    go_end0
    exact ⟨rfl, HE.out⟩
end
end Go.Proofs.YtaefeakmlgjonaaGreat
/- Add, whatever room there is. -/
namespace Go.Proofs.YtaefeakmlgjonaaGreat
open Go.ChangeShapes Go.WideShapes Go.ChangeAt Go.RowKit Go.Maps Go.MapKept
set_option linter.unusedVariables false
set_option linter.unusedSimpArgs false
set_option maxRecDepth 100000
/-- How many lie in the tree at t. -/
def cntOf (t : Nat) (w : World) : Nat := match w.cell? ⟨t, 0, none⟩ with
  | some (.map (some b)) => (match w.heap[b]? with
    | some (.map es _) => es.size
    | _ => 0)
  | _ => 0
theorem cnt_eq {Q : Nat → Prop} {B C t : Nat} {m : Tr} {w : World} (h : Tw Q B C t m w) (hn : (m.L.map St.seq).Nodup) : cntOf t w = m.L.length := by
  obtain ⟨b, q, h⟩ := h
  unfold cntOf
  rw [h.box.at (j := 0) rfl]
  obtain ⟨es, c, hb, S, H⟩ := h.map
  simp only [hb]
  have hp : (es.toList.map (·.key)).Perm (m.L.map fun s => Value.int .i64 s.seq) := by
    refine (List.perm_ext_iff_of_nodup ?_ ?_).2 fun v => ?_
    · have := ((stamped_iff es c).1 S).2.2
      exact List.pairwise_map.2 this
    · have : (m.L.map fun s => Value.int .i64 s.seq) = (m.L.map St.seq).map (Value.int .i64) := by simp
      rw [this]
      exact List.pairwise_map.2 (hn.imp fun h e => h (by cases e; rfl))
    · rw [List.mem_map, List.mem_map]
      constructor
      · rintro ⟨a, ha, rfl⟩
        obtain ⟨x, hx, _, _, hv⟩ := H.on a ha
        unfold ptrs at hv
        obtain ⟨s, hs, _⟩ := Option.map_eq_some_iff.1 hv
        exact ⟨s, look_mem hs, by rw [hx, look_seq hs]⟩
      · rintro ⟨s, hs, rfl⟩
        have : look m.L s.seq ≠ none := by
          intro e
          have := List.find?_eq_none.1 e s hs
          simp at this
        obtain ⟨s', hs'⟩ := Option.ne_none_iff_exists'.1 this
        obtain ⟨a, ha, hk, _⟩ := H.at_ s.seq (.pointer (some ⟨q s.seq, 0, none⟩)) (by unfold ptrs; rw [hs']; rfl)
        exact ⟨a, ha, hk⟩
  have := hp.length_eq
  simpa using this
/-- Where the loop of Add stands. -/
def Loo (Q : Nat → Prop) (B t : Nat) (m : Tr) (ds : List Dl) (w wr : World) : Prop :=
  (Tw Q B wr.heap.size t (addT m ds) wr ∧ Ff TP B w wr) ∨ (m.most < ((addT m ds).L.length : Int) ∧ Tw Q B wr.heap.size t (evT (addT m ds)) wr ∧ Ff TP B w wr)
section
variable {Q : Nat → Prop} {B C t : Nat} {m : Tr} {w : World}
set_option maxHeartbeats 16000000 in
theorem add_any (h : Tw Q B C t m w) (I : Inw m) (hn : m.next ≤ 9999) (hm : (m.L.length : Int) ≤ m.most) (hmo : 1 ≤ m.most ∧ m.most ≤ 200) (hB : B ≤ w.heap.size) (hQ : ∀ j, w.heap.size ≤ j → Q j)
    {P : Nat → Prop} {X : Xl} {D : Nat} (ok : Okx D X) {v : Value} {ds : List Dl} (hd : Dr P X v ds w) (hf : Few 2000 ds) :
    Calls Tryz.prog 49 #[.pointer (some ⟨t, 0, none⟩), v] w fun e w' => e = .returned (.int .i64 m.next) ∧ Tw Q B w'.heap.size t (addE m ds) w' ∧ Ff TP B w w' := by
  have F := I.inv.fam
  have hsq := I.inv.nodup
  have hw := I.inv.nw
  have HI : Hid (Inw m ∧ m.next ≤ 9999 ∧ (m.L.length : Int) ≤ m.most ∧ (1 ≤ m.most ∧ m.most ≤ 200) ∧ Few 2000 ds) := ⟨I, hn, hm, hmo, hf⟩
  have hxn : look m.L m.next = none := by
    cases e : look m.L m.next with
    | none => rfl
    | some s => have := F.fr _ _ e; omega
  have hnw := F.rg (by omega) hw
  have hlt : m.now < m.next ∧ 0 ≤ m.next := by
    obtain ⟨s, hs⟩ := Option.ne_none_iff_exists'.1 hw
    have := F.fr _ _ hs; omega
  obtain ⟨b, q, h⟩ := h
  have c0 := h.box.at (j := 0) rfl
  have c1 := h.box.at (j := 1) rfl
  have c2 := h.box.at (j := 2) rfl
  have HC : Hid (∀ z, Kp w z → Calls Tryz.prog 90 #[v] z fun e w' => ∃ v', e = .returned v' ∧ Dx (RQ Q) 0 v' ds w' ∧ Kp w w') := fun z k => (copies_any ok (hd.kp ok k) hf (by decide)).mono (by rintro e w' ⟨v', rfl, q1, q2⟩; exact ⟨v', rfl, q1.rq fun j hj => hQ j (Nat.le_trans k.size hj), kp_trans k q2⟩)
  obtain ⟨a, n, c, rfl⟩ : ∃ a n c, v = .slice a n c := by obtain ⟨a, c, rfl, _⟩ := hd.form; exact ⟨a, _, c, rfl⟩
  -- what the map's store comes to
  have HS : Hid (∀ (v' : Value) (w3 : World), Dx (RQ Q) 0 v' ds w3 → Kp w w3 → ∃ w5 q', (Instr.mapUpdate 117 (.map (some b)) (.int .i64 m.next) (.pointer (some ⟨w3.heap.size, 0, none⟩))).run Tryz.prog (w3.alloc (.cells #[.int .i64 m.now, .int .i64 (-1), v'] 123)) = .ok () w5 ∧ Tb Q B w5.heap.size t b q' { m with L := m.L ++ [⟨m.next, m.now, -1, ds⟩] } w5 ∧ Ff TP B w w5) := fun v' w3 d3 k3 => by
    have h4 := (h.kp k3).kp (kp_alloc w3 (.cells #[.int .i64 m.now, .int .i64 (-1), v'] 123))
    obtain ⟨w5, r1, r2, r3, _, _⟩ := h4.add (x := m.next) (fr := m.now) (by omega) (by omega) hxn (d3.kp (okRQ _ 0) (kp_alloc _ _)) hw (Lc.new w3 [.int .i64 m.now, .int .i64 (-1), v'] _) (Nat.le_trans hB k3.size) (fun y hy e => by
      obtain ⟨s, hs⟩ := Option.ne_none_iff_exists'.1 hy
      obtain ⟨_, u, hu, _⟩ := (h.kp k3).st y s hs
      have := hu.lt; omega)
    exact ⟨w5, _, r1, r2, (Ff.kp (kp_trans k3 (kp_alloc _ _))).trans r3⟩
  have HH : Hid (Fam m.L m.next ∧ (m.L.map St.seq).Nodup ∧ look m.L m.now ≠ none ∧ (m.L.length : Int) ≤ m.most ∧ look m.L m.next = none ∧ Lc 119 t [.map (some b), .int .i64 m.now, .int .i64 m.next, .int .i64 m.most] w) := ⟨F, hsq, hw, hm, hxn, h.box⟩
  clear h F hsq hw hm hxn hd hf ok I hmo
  go_enter Tryz.func49, Tryz.ntmps49
  go_upto_region 1 with fail
  refine wp_region_noPanic ?_
  refine wp_region_held_drew (S := fun z => z.cell? ⟨t, 0, none⟩ = some (.map (some b)) ∧ z.cell? ⟨t, 1, none⟩ = some (.int .i64 m.now) ∧ z.cell? ⟨t, 2, none⟩ = some (.int .i64 m.next)) (by kernel_rfl) (⟨c0, c1, c2⟩) (fun hHeld => ?_)
  refine takeAt 0 (some 5) ?_ rfl rfl (by kernel_rfl) (by kernel_rfl) (by kernel_rfl) (fun _ _ _ h => h) (Or.inl ⟨by rfl, ?_⟩) hHeld ?_
  rotate_left
  · intro w hSw
    go_simp <;> with_reducible rfl
  try simp only [Act.put, List.setIfInBounds_toArray, List.set_cons_zero, List.set_cons_succ]
  refine takeAt 1 (some 6) ?_ rfl rfl (by kernel_rfl) (by kernel_rfl) (by kernel_rfl) (fun _ _ _ h => h) (Or.inl ⟨by rfl, ?_⟩) hHeld ?_
  rotate_left
  · intro w hSw
    go_simp <;> with_reducible rfl
  try simp only [Act.put, List.setIfInBounds_toArray, List.set_cons_zero, List.set_cons_succ]
  refine takeAt 2 (some 7) ?_ rfl rfl (by kernel_rfl) (by kernel_rfl) (by kernel_rfl) (fun _ _ _ h => h) (Or.inl ⟨by rfl, ?_⟩) hHeld ?_
  rotate_left
  · intro w hSw
    go_simp <;> with_reducible rfl
  try simp only [Act.put, List.setIfInBounds_toArray, List.set_cons_zero, List.set_cons_succ]
  refine takeAt 3 (some 8) ?_ rfl rfl (by kernel_rfl) (by kernel_rfl) (by kernel_rfl) (fun _ _ _ h => h) (Or.inl ⟨by rfl, ?_⟩) hHeld ?_
  rotate_left
  · intro w hSw
    go_simp <;> with_reducible rfl
  try simp only [Act.put, List.setIfInBounds_toArray, List.set_cons_zero, List.set_cons_succ]
  refine takeAt 4 (some 9) ?_ rfl rfl (by kernel_rfl) (by kernel_rfl) (by kernel_rfl) (fun _ _ _ h => h) (Or.inl ⟨by rfl, ?_⟩) hHeld ?_
  rotate_left
  · intro w hSw
    go_simp <;> with_reducible rfl
  try simp only [Act.put, List.setIfInBounds_toArray, List.set_cons_zero, List.set_cons_succ]
  refine takeAt 5 (some 10) ?_ rfl rfl (by kernel_rfl) (by kernel_rfl) (by kernel_rfl) (fun _ _ _ h => h) (Or.inl ⟨by rfl, ?_⟩) hHeld ?_
  rotate_left
  · intro w hSw
    go_simp <;> with_reducible rfl
  try simp only [Act.put, List.setIfInBounds_toArray, List.set_cons_zero, List.set_cons_succ]
  refine takeAt 6 (some 11) ?_ rfl rfl (by kernel_rfl) (by kernel_rfl) (by kernel_rfl) (fun _ _ _ h => h) (Or.inl ⟨by rfl, ?_⟩) hHeld ?_
  rotate_left
  · intro w hSw
    go_simp <;> with_reducible rfl
  try simp only [Act.put, List.setIfInBounds_toArray, List.set_cons_zero, List.set_cons_succ]
  refine takeAt 7 (some 12) ?_ rfl rfl (by kernel_rfl) (by kernel_rfl) (by kernel_rfl) (fun _ _ _ h => h) (Or.inl ⟨by rfl, ?_⟩) hHeld ?_
  rotate_left
  · intro w hSw
    go_simp <;> with_reducible rfl
  try simp only [Act.put, List.setIfInBounds_toArray, List.set_cons_zero, List.set_cons_succ]
  refine takeAt 8 (some 13) ?_ rfl rfl (by kernel_rfl) (by kernel_rfl) (by kernel_rfl) (fun _ _ _ h => h) (Or.inl ⟨by rfl, ?_⟩) hHeld ?_
  rotate_left
  · intro w hSw
    go_simp <;> with_reducible rfl
  try simp only [Act.put, List.setIfInBounds_toArray, List.set_cons_zero, List.set_cons_succ]
  refine takeAt 9 (some 14) ?_ rfl rfl (by kernel_rfl) (by kernel_rfl) (by kernel_rfl) (fun _ _ _ h => h) (Or.inl ⟨by rfl, ?_⟩) hHeld ?_
  rotate_left
  · intro w hSw
    go_simp <;> with_reducible rfl
  try simp only [Act.put, List.setIfInBounds_toArray, List.set_cons_zero, List.set_cons_succ]
  refine takeAt 10 (some 15) ?_ rfl rfl (by kernel_rfl) (by kernel_rfl) (by kernel_rfl) (fun _ _ _ h => h) (Or.inl ⟨by rfl, ?_⟩) hHeld ?_
  rotate_left
  · intro w hSw
    go_simp <;> with_reducible rfl
  try simp only [Act.put, List.setIfInBounds_toArray, List.set_cons_zero, List.set_cons_succ]
  refine takeAt 11 (some 16) ?_ rfl rfl (by kernel_rfl) (by kernel_rfl) (by kernel_rfl) (fun _ _ _ h => h) (Or.inl ⟨by rfl, ?_⟩) hHeld ?_
  rotate_left
  · intro w hSw
    go_simp <;> with_reducible rfl
  try simp only [Act.put, List.setIfInBounds_toArray, List.set_cons_zero, List.set_cons_succ]
  refine takeAt 12 (some 17) ?_ rfl rfl (by kernel_rfl) (by kernel_rfl) (by kernel_rfl) (fun _ _ _ h => h) (Or.inl ⟨by rfl, ?_⟩) hHeld ?_
  rotate_left
  · intro w hSw
    go_simp <;> with_reducible rfl
  try simp only [Act.put, List.setIfInBounds_toArray, List.set_cons_zero, List.set_cons_succ]
  refine callAt 13 18 90 (vals := #[.slice a n c]) (by kernel_rfl) rfl rfl rfl rfl (by simp [Act.eval]) Tryz.func90 (by kernel_rfl) (by kernel_rfl) ?_
  refine Calls.mono (HC.out _ (by first | exact Below.refl _ _ | exact kp_drew _)) ?_
  rintro e w3 ⟨v', rfl, d3, k3⟩
  obtain ⟨w5, q', hr5, t5, f5⟩ := HS.out v' w3 d3 k3
  obtain ⟨a', n', c', rfl⟩ : ∃ a' n' c', v' = .slice a' n' c' := by obtain ⟨a', c', rfl, _⟩ := d3.form; exact ⟨a', _, c', rfl⟩
  have H5 : Hid (Tb Q B w5.heap.size t b q' { m with L := m.L ++ [⟨m.next, m.now, -1, ds⟩] } w5 ∧ Ff TP B w w5) := ⟨t5, f5⟩
  have K3 : Hid (Kp w w3) := k3
  clear d3 k3 t5 f5 HC HS
  refine ⟨_, rfl, ⟨kp_cell K3.out c0, kp_cell K3.out c1, kp_cell K3.out c2⟩, fun hHeld => ?_⟩
  try simp only [Act.put, List.setIfInBounds_toArray, List.set_cons_zero, List.set_cons_succ]
  refine takeAt 14 (some 19) ?_ rfl rfl (by kernel_rfl) (by kernel_rfl) (by kernel_rfl) (fun _ _ _ h => h) (Or.inl ⟨by rfl, ?_⟩) hHeld ?_
  rotate_left
  · intro w hSw
    go_simp <;> with_reducible rfl
  try simp only [Act.put, List.setIfInBounds_toArray, List.set_cons_zero, List.set_cons_succ]
  refine wpAnyH_ready (rs := [15]) (by kernel_rfl) (by simp) ?_
  refine AllReadyH.cons rfl (fun K hK => ?_) AllReadyH.nil
  go_simp
  refine hK.out _ _ (⟨kp_cell (kp_alloc _ _) hHeld.1, kp_cell (kp_alloc _ _) hHeld.2.1, kp_cell (kp_alloc _ _) hHeld.2.2⟩) (fun hHeld => ?_)
  clear hK K
  try simp only [Act.put, List.setIfInBounds_toArray, List.set_cons_zero, List.set_cons_succ]
  refine wpAnyH_ready (rs := [16]) (by kernel_rfl) (by simp) ?_
  refine AllReadyH.cons rfl (fun K hK => ?_) AllReadyH.nil
  go_simp
  refine hK.out _ _ (⟨H5.out.1.box.at (j := 0) rfl, H5.out.1.box.at (j := 1) rfl, H5.out.1.box.at (j := 2) rfl⟩) (fun hHeld => ?_)
  clear hK K
  try simp only [Act.put, List.setIfInBounds_toArray, List.set_cons_zero, List.set_cons_succ]
  clear hr5 c0 c1 c2
  refine wpAnyH_done (by kernel_rfl) ?_ _
  refine NoPanic.normal ?_
  go_upto_region 2 with fail
  have f2 : Hid (look (m.L ++ [⟨m.next, m.now, -1, ds⟩]) m.now ≠ none ∧ m.now ≠ m.next) := ⟨by rw [look_snoc HH.out.2.2.2.2.1, if_neg (by omega)]; exact HH.out.2.2.1, by omega⟩
  obtain ⟨s0, hs0⟩ := Option.ne_none_iff_exists'.1 f2.out.1
  have c0 := H5.out.1.box.at (j := 0) rfl
  have c1 := H5.out.1.box.at (j := 1) rfl
  have c2 := H5.out.1.box.at (j := 2) rfl
  have hlk := H5.out.1.get (by omega) (by omega) hs0
  have hl1 := hlk w5 (Below.refl _ _)
  have hl2 := hlk w5.drew (kp_drew _)
  obtain ⟨_, u0, hu0, _⟩ := H5.out.1.st _ _ hs0
  have g1 := hu0.fz 1
  have g0 := hu0.at (j := 1) rfl
  obtain ⟨W6, hW6⟩ : ∃ W6, (w5.setCell ⟨q' m.now, 1, none⟩ (.int .i64 m.next)).drew = W6 := ⟨_, rfl⟩
  have H6 : Hid (Tb Q B w5.heap.size t b q' { m with L := setOn m.L m.now m.next ++ [⟨m.next, m.now, -1, ds⟩] } W6 ∧ Ff TP B w W6) := by
    obtain ⟨r1, r2⟩ := H5.out.1.on f2.out.1 m.next
    rw [← hW6]
    refine ⟨?_, (H5.out.2.trans r2).trans (Ff.kp (kp_drew _))⟩
    have := r1.kp (kp_drew _)
    rw [on_snoc f2.out.2] at this
    exact this
  have HW6 : Hid (_ = W6) := hW6
  clear hlk hs0 hu0 hW6
  go_region
  rw [HW6.out]
  clear HW6 c0 c1 c2 hl1 hl2 g0 g1
  have c2 := H6.out.1.box.at (j := 2) rfl
  have g1 := H6.out.1.box.fz 1
  have c1 := H6.out.1.box.at (j := 1) rfl
  have g2 := H6.out.1.box.fz 2
  have H7 : Hid (Tw Q B ((W6.setCell ⟨t, 1, none⟩ (.int .i64 m.next)).setCell ⟨t, 2, none⟩ (.int .i64 (m.next + 1))).heap.size t (addT m ds) ((W6.setCell ⟨t, 1, none⟩ (.int .i64 m.next)).setCell ⟨t, 2, none⟩ (.int .i64 (m.next + 1))) ∧ Ff TP B w ((W6.setCell ⟨t, 1, none⟩ (.int .i64 m.next)).setCell ⟨t, 2, none⟩ (.int .i64 (m.next + 1)))) := by
    obtain ⟨r1, r2⟩ := H6.out.1.now m.next
    obtain ⟨r3, r4⟩ := r1.nxt (m.next + 1)
    exact ⟨Tw.sized ⟨b, q', r3⟩, (H6.out.2.trans r2).trans r4⟩
  go_wp2_with fail
  generalize hW7 : (W6.setCell ⟨t, 1, none⟩ (.int .i64 m.next)).setCell ⟨t, 2, none⟩ (.int .i64 (m.next + 1)) = W7 at H7 ⊢
  have IA : Hid (Inw (addT m ds)) := HI.out.1.add HI.out.2.2.2.2
  have HA : Hid ((addT m ds).L.length = m.L.length + 1) := by
    show (setOn m.L m.now m.next ++ [_]).length = _
    rw [List.length_append, setOn_len]; rfl
  clear hW7 c1 c2 g1 g2
  have H8 : Hid (Loo Q B t m ds w W7) := .inl H7.out
  go_loopw [] (fun wr => Hid (Loo Q B t m ds w wr)) (fun wr => cntOf t wr)
  case atStart => exact H8
  case round =>
    clear H8 H7
    rcases hrel.out with ⟨ht, hf⟩ | ⟨ho, ht, hf⟩
    · obtain ⟨b7, q7, t7⟩ := ht
      have c0 := t7.box.at (j := 0) rfl
      have c1' : wr.cell? ⟨t, 1, none⟩ = some (.int .i64 m.next) := t7.box.at (j := 1) rfl
      have c3 : wr.cell? ⟨t, 3, none⟩ = some (.int .i64 m.most) := t7.box.at (j := 3) rfl
      have hln := fun ty k => t7.len IA.out.inv.nodup ty (wr.drewN k) (kp_drewN _ k)
      have HT7 : Hid (Tb Q B wr.heap.size t b7 q7 (addT m ds) wr ∧ Ff TP B w wr) := ⟨t7, hf⟩
      clear t7 hf hrel
      by_cases hov : m.most < ((addT m ds).L.length : Int)
      · have d1 : decide (((addT m ds).L.length : Int) > m.most) = true := decide_eq_true hov
        have d2 : decide (m.most < ((addT m ds).L.length : Int)) = true := decide_eq_true hov
        have HOV : Hid (m.most < ((addT m ds).L.length : Int)) := hov
        have HG : Hid (∀ k, Calls Tryz.prog 91 #[.pointer (some ⟨t, 0, none⟩)] (wr.drewN k) fun e w' => e = .returned (.tuple #[]) ∧ Loo Q B t m ds w w' ∧ cntOf t w' < cntOf t wr) := fun k => by
          have h1 := HA.out
          have h2 := HI.out.2.2.2.1
          have h3 := HI.out.2.2.1
          have hTk : Tb Q B wr.heap.size t b7 q7 (addT m ds) (wr.drewN k) := HT7.out.1.kp (kp_drewN _ _)
          refine (letGo_any ⟨b7, q7, hTk⟩ IA.out (by have := HI.out.2.1; show m.next + 1 ≤ 10000; omega) (by omega) (by omega)).mono ?_
          rintro e w' ⟨rfl, r1, r2⟩
          refine ⟨rfl, .inr ⟨HOV.out, r1.sized, (HT7.out.2.trans (Ff.kp (kp_drewN _ _))).trans r2⟩, ?_⟩
          rw [cnt_eq ⟨b7, q7, HT7.out.1⟩ IA.out.inv.nodup, cnt_eq r1 (IA.out.ev (by omega)).inv.nodup]
          have := ev_len IA.out (by omega)
          omega
        clear HT7 hov
        generalize (addT m ds).L.length = K7 at hln d1 d2
        go_wp2_with fail
        go_quiet (fail)
        go_wp2_with fail
        refine Calls.mono (HG.out _) ?_
        rintro e w9 ⟨rfl, r1, r2⟩
        have H9 : Hid (Loo Q B t m ds w w9) := r1
        have HM9 : Hid (cntOf t w9 < cntOf t wr) := r2
        clear HG r1 r2
        go_wp2_with fail
        go_roundw
        case rel => exact H9
        case measure => exact HM9.out
      · have d1 : decide (((addT m ds).L.length : Int) > m.most) = false := decide_eq_false hov
        have d2 : decide (m.most < ((addT m ds).L.length : Int)) = false := decide_eq_false hov
        have HX : Hid (∀ k, Tw Q B (wr.drewN k).heap.size t (addE m ds) (wr.drewN k) ∧ Ff TP B w (wr.drewN k)) := fun k => by
          have e1 : addE m ds = addT m ds := by unfold addE; rw [if_neg hov]
          rw [e1]
          exact ⟨(Tw.kp ⟨b7, q7, HT7.out.1⟩ (kp_drewN _ _)).sized, HT7.out.2.trans (Ff.kp (kp_drewN _ _))⟩
        clear HT7 hov
        generalize (addT m ds).L.length = K7 at hln d1 d2
        go_wp2_with fail
        go_quiet (fail)
        go_wp2_with fail
        go_ret
        exact ⟨rfl, HX.out _⟩
    · obtain ⟨b7, q7, t7⟩ := ht
      have hpn := ev_now (addT m ds)
      have IE : Hid (Inw (evT (addT m ds))) := IA.out.ev (by have := HA.out; have := HI.out.2.2.2.1; omega)
      have c0 := t7.box.at (j := 0) rfl
      have c1' : wr.cell? ⟨t, 1, none⟩ = some (.int .i64 m.next) := by have := t7.box.at (j := 1) rfl; rw [hpn.1] at this; exact this
      have c3 : wr.cell? ⟨t, 3, none⟩ = some (.int .i64 m.most) := by have := t7.box.at (j := 3) rfl; rw [hpn.2.2] at this; exact this
      have hln := fun ty k => t7.len IE.out.inv.nodup ty (wr.drewN k) (kp_drewN _ k)
      have hno : ¬ m.most < ((evT (addT m ds)).L.length : Int) := by
        have := ev_len IA.out (by have := HA.out; have := HI.out.2.2.2.1; omega)
        have := HA.out
        have := HI.out.2.2.1
        omega
      have d1 : decide (((evT (addT m ds)).L.length : Int) > m.most) = false := decide_eq_false hno
      have d2 : decide (m.most < ((evT (addT m ds)).L.length : Int)) = false := decide_eq_false hno
      have HX : Hid (∀ k, Tw Q B (wr.drewN k).heap.size t (addE m ds) (wr.drewN k) ∧ Ff TP B w (wr.drewN k)) := fun k => by
        have e1 : addE m ds = evT (addT m ds) := by unfold addE; rw [if_pos ho]
        rw [e1]
        exact ⟨(Tw.kp ⟨b7, q7, t7⟩ (kp_drewN _ _)).sized, hf.trans (Ff.kp (kp_drewN _ _))⟩
      clear t7 hf ho hrel hno hpn
      generalize (evT (addT m ds)).L.length = K7 at hln d1 d2
      go_wp2_with fail
      go_quiet (fail)
      go_wp2_with fail
      go_ret
      exact ⟨rfl, HX.out _⟩
end
end Go.Proofs.YtaefeakmlgjonaaGreat
/- Undo, Redo, Go: from a state's text to another one's (wip/undo's TE, for states of more and greater changes). -/
namespace Go.Proofs.YtaefeakmlgjonaaGreat
open Go.ChangeShapes Go.WideShapes Go.ChangeAt Go.RowKit Go.Maps Go.MapKept
set_option linter.unusedVariables false
set_option linter.unusedSimpArgs false
set_option maxRecDepth 100000
/-- Lines that a text may have. -/
def Ln (l : List ByteArray) : Prop := l.length ≤ 2000 ∧ ∀ s ∈ l, s.size ≤ 1000
def Smd (d : Dl) : Prop := Ln d.old ∧ Ln d.nw
/-- Each state is made by few changes, and these are small. -/
def Few64 (ds : List Dl) : Prop := ds.length ≤ 64 ∧ ∀ d ∈ ds, Smd d
def Sml (L : List St) : Prop := ∀ x s, look L x = some s → Few64 s.by_
theorem few64 {ds : List Dl} (h : Few64 ds) : Few 2000 ds := ⟨by have := h.1; omega, fun d hd => by have := (h.2 d hd).1.1; have := (h.2 d hd).2.1; omega⟩
theorem smd_turn {ds : List Dl} (h : ∀ d ∈ ds, Smd d) : ∀ d ∈ turnD ds, Smd d := fun d hd => by
  unfold turnD at hd
  simp only [List.mem_map, List.mem_reverse] at hd
  obtain ⟨d', h1, rfl⟩ := hd
  exact ⟨(h d' h1).2, (h d' h1).1⟩
section
variable {L L' : List St} {m m' : Tr} {x y : Int} {l : List Int} {s : St} {ds : List Dl}
theorem Sml.mono (h : Sml L) (hm : ∀ x s', look L' x = some s' → s'.by_ = [] ∨ ∃ s, look L x = some s ∧ s'.by_ = s.by_) : Sml L' := fun x s' hx => by
  rcases hm x s' hx with e | ⟨s, h1, h2⟩
  · rw [e]; exact ⟨by simp, by simp⟩
  · rw [h2]; exact h x s h1
theorem Sml.setOn (h : Sml L) (a b : Int) : Sml (Go.Proofs.YtaefeakmlgjonaaGreat.setOn L a b) := h.mono fun x s' hx => by
  obtain ⟨s0, q1, _, q3, _⟩ := fr_on' L a b x s' hx
  exact .inr ⟨s0, q1, q3.symm⟩
theorem Sml.led {top : Int} : ∀ (l : List Int) (L : List St), Sml L → Sml (Go.Proofs.YtaefeakmlgjonaaGreat.led L l top)
  | [], _, h => h
  | x :: l, L, h => Sml.led l _ (h.setOn _ _)
theorem Sml.byOf (h : Sml L) (x : Int) : Few64 (Go.Proofs.YtaefeakmlgjonaaGreat.byOf L x) := by
  unfold Go.Proofs.YtaefeakmlgjonaaGreat.byOf
  cases e : look L x with
  | none => exact ⟨by simp, by simp⟩
  | some s => exact h x s e
theorem Sml.ups (h : Sml L) (l : List Int) : (upsD L l).length ≤ 64 * l.length ∧ ∀ d ∈ upsD L l, Smd d := by
  induction l with
  | nil => exact ⟨by simp [upsD], by simp [upsD]⟩
  | cons x l ih =>
    have e : upsD L (x :: l) = turnD (Go.Proofs.YtaefeakmlgjonaaGreat.byOf L x) ++ upsD L l := by simp [upsD]
    have h1 := h.byOf x
    rw [e]
    refine ⟨by rw [List.length_append, turnD_len, List.length_cons]; have := h1.1; omega, fun d hd => ?_⟩
    rcases List.mem_append.1 hd with q | q
    · exact smd_turn h1.2 d q
    · exact ih.2 d q
theorem Sml.dn (h : Sml L) (l : List Int) : (dnD L l).length ≤ 64 * l.length ∧ ∀ d ∈ dnD L l, Smd d := by
  induction l with
  | nil => exact ⟨by simp [dnD], by simp [dnD]⟩
  | cons x l ih =>
    have h1 := h.byOf x
    rw [dnD_cons]
    refine ⟨by rw [List.length_append, List.length_cons]; have := h1.1; omega, fun d hd => ?_⟩
    rcases List.mem_append.1 hd with q | q
    · exact ih.2 d q
    · exact h1.2 d q
theorem Sml.add (h : Sml m.L) (I : Inw m) (hd : Few64 ds) : Sml (addT m ds).L := fun x s hx => by
  rw [addT_look I.inv] at hx
  by_cases e : x = m.next
  · rw [if_pos e] at hx; cases hx; exact hd
  · rw [if_neg e] at hx
    obtain ⟨s0, q1, q2⟩ := Option.map_eq_some_iff.1 hx
    have hs : s.by_ = s0.by_ := by rw [← q2]; split <;> rfl
    rw [hs]; exact h x s0 q1
theorem Sml.ev (h : Sml m.L) (I : Inw m) (h2 : 2 ≤ m.L.length) : Sml (evT m).L := by
  cases hfd : m.L.find? (bareP m) with
  | some s =>
    obtain ⟨h1, h3, h4⟩ := bare_some hfd
    have hx := mem_look I.inv.sq h1
    have hf := bare_fr I.inv.fam I.onk I.inv.nw hx h3 h4
    have hxf := I.inv.fam.fr _ _ hx
    rw [ev_some hfd]
    refine h.mono fun y s' hy => .inr ?_
    have hy' : look (cutT m.L s.seq s.fr) y = some s' := hy
    rw [look_cut (by omega)] at hy'
    split at hy'
    · cases hy'
    · obtain ⟨s0, q1, q2⟩ := Option.map_eq_some_iff.1 hy'
      refine ⟨s0, q1, ?_⟩
      rw [← q2]; split <;> rfl
  | none =>
    obtain ⟨r, M, hL, hM⟩ := cons_of h2
    rw [ev_none hfd]
    refine h.mono fun y s' hy => ?_
    have hy' : look (rootT m.L) y = some s' := hy
    have hs := I.inv.sq
    rw [hL] at hy' hs
    rw [look_root r M hs] at hy'
    split at hy'
    · cases hy'
    · obtain ⟨s0, q1, q2⟩ := Option.map_eq_some_iff.1 hy'
      rw [← q2]
      unfold unroot
      split
      · exact .inl rfl
      · exact .inr ⟨s0, by rw [hL]; exact q1, rfl⟩
theorem Sml.addE (h : Sml m.L) (I : Inw m) (hf : Few 2000 ds) (hmo : 1 ≤ m.most) (hd : Few64 ds) : Sml (Go.Proofs.YtaefeakmlgjonaaGreat.addE m ds).L := by
  unfold Go.Proofs.YtaefeakmlgjonaaGreat.addE
  split
  · exact (h.add I hd).ev (I.add hf) (by omega)
  · exact h.add I hd
end
/-- A tree whose states have these texts. -/
structure StT (Q : Nat → Prop) (B C t : Nat) (m : Tr) (T : Int → List ByteArray) (w : World) : Prop where
  tw : Tw Q B C t m w
  hC : C ≤ w.heap.size
  hB : B ≤ w.heap.size
  inw : Inw m
  mo : 1 ≤ m.most ∧ m.most ≤ 200
  ln : (m.L.length : Int) ≤ m.most
  nx : m.next ≤ 200
  tx : TxI m.L T
  sm : Sml m.L
/-- What a call that goes to another state tells. -/
def Trv (Q : Nat → Prop) (B C t : Nat) (m : Tr) (T : Int → List ByteArray) (w : World) (v : Value) (err : Int) (w' : World) : Prop :=
  0 ≤ err ∧ err < 1000 ∧ Ff TP B w w' ∧ ((err ≠ 0 ∧ v = .slice none 0 0 ∧ StT Q B C t m T w') ∨
    (err = 0 ∧ ∃ ds m', Dw 0 v ds w' ∧ StT Q B C t m' T w' ∧ apps (T m.now) ds = some (T m'.now) ∧ m'.next = m.next ∧ m'.most = m.most ∧ (∀ d ∈ ds, Smd d) ∧ ds.length ≤ 26000))
section
variable {Q : Nat → Prop} {B C t : Nat} {m m' : Tr} {T : Int → List ByteArray} {w w1 : World} {v : Value} {err : Int} {ds : List Dl}
theorem StT.kp (h : StT Q B C t m T w) (k : Kp w w1) : StT Q B C t m T w1 := ⟨h.tw.kp k, Nat.le_trans h.hC k.size, Nat.le_trans h.hB k.size, h.inw, h.mo, h.ln, h.nx, h.tx, h.sm⟩
theorem trv_no (h : StT Q B C t m T w) (k : Kp w w1) (he : 0 ≤ err ∧ err < 1000 ∧ err ≠ 0) : Trv Q B C t m T w (.slice none 0 0) err w1 := ⟨he.1, he.2.1, Ff.kp k, .inl ⟨he.2.2, rfl, h.kp k⟩⟩
theorem trv_yes (h : StT Q B C t m T w) (q : Gone Q B C t w v ds m' w1) (I : Inw m') (hx : TxI m'.L T) (hs : Sml m'.L) (ha : apps (T m.now) ds = some (T m'.now)) (h1 : m'.next = m.next) (h2 : m'.most = m.most) (h3 : m'.L.length = m.L.length) (h4 : ∀ d ∈ ds, Smd d) (h5 : ds.length ≤ 26000) : Trv Q B C t m T w v 0 w1 := by
  obtain ⟨q1, q2, q3⟩ := q
  have hz := q3.size
  exact ⟨by decide, by decide, q3, .inr ⟨rfl, ds, m', q1.zero, ⟨q2, Nat.le_trans h.hC hz, Nat.le_trans h.hB hz, I, by rw [h2]; exact h.mo, by rw [h2, h3]; exact h.ln, by rw [h1]; exact h.nx, hx, hs⟩, ha, h1, h2, h4, h5⟩⟩
theorem trv_undo (h : StT Q B C t m T w) : Calls Tryz.prog 51 #[.pointer (some ⟨t, 0, none⟩)] w fun e w1 => ∃ v err, e = .returned (.tuple #[v, .int .u16 err]) ∧ Trv Q B C t m T w v err w1 := by
  have I := h.inw
  have F := I.inv.fam
  have hn := h.nx
  obtain ⟨s, hs⟩ := Option.ne_none_iff_exists'.1 I.inv.nw
  have hrg := rg_of (F.rg (by omega) I.inv.nw)
  by_cases he : s.fr = -1
  · refine (undo_end h.tw hrg hs he).mono ?_
    rintro e w' ⟨rfl, k, rfl⟩
    exact ⟨_, _, rfl, trv_no h (kp_drewN _ _) (by decide)⟩
  · refine (undo_any h.tw hrg hs he (F.few _ _ hs) (by decide)).mono ?_
    rintro e w' ⟨v, rfl, q⟩
    have hb := h.sm _ _ hs
    exact ⟨_, _, rfl, trv_yes h q (I.up hs he) h.tx h.sm (apps_turn (h.tx _ _ hs he)) rfl rfl rfl (smd_turn hb.2) (by rw [turnD_len]; have := hb.1; omega)⟩
theorem trv_redo (h : StT Q B C t m T w) : Calls Tryz.prog 54 #[.pointer (some ⟨t, 0, none⟩)] w fun e w1 => ∃ v err, e = .returned (.tuple #[v, .int .u16 err]) ∧ Trv Q B C t m T w v err w1 := by
  have I := h.inw
  have F := I.inv.fam
  have hn := h.nx
  obtain ⟨s, hs⟩ := Option.ne_none_iff_exists'.1 I.inv.nw
  have hrg := rg_of (F.rg (by omega) I.inv.nw)
  by_cases he : s.on = -1
  · refine (redo_end h.tw hrg hs he).mono ?_
    rintro e w' ⟨rfl, k, rfl⟩
    exact ⟨_, _, rfl, trv_no h (kp_drewN _ _) (by decide)⟩
  · obtain ⟨s', hs', hf'⟩ := F.on _ _ hs he
    refine (redo_any h.tw hrg hs he (rg_of (F.rg (by omega) (by rw [hs']; simp))) hs' (F.few _ _ hs') (by decide)).mono ?_
    rintro e w' ⟨v, rfl, q⟩
    have hb := h.sm _ _ hs'
    have hlt := I.inv.lt
    have hap := h.tx _ _ hs' (by rw [hf']; omega)
    rw [hf'] at hap
    exact ⟨_, _, rfl, trv_yes h q (I.down hs he) h.tx h.sm hap rfl rfl rfl hb.2 (by have := hb.1; omega)⟩
theorem trv_went (h : StT Q B C t m T w) {seq : Int} (hs : look m.L seq ≠ none) (q : Went Q B C t w v m seq w1) : Trv Q B C t m T w v 0 w1 := by
  obtain ⟨top, l1, l2, hm, q⟩ := q
  have F := h.inw.inv.fam
  have u1 := h.sm.ups l1
  have u2 := h.sm.dn l2
  have x1 := F.up_len hm.u1
  have x2 := F.up_len hm.u2
  obtain ⟨sn, hsn⟩ := Option.ne_none_iff_exists'.1 h.inw.inv.nw
  obtain ⟨ss, hss⟩ := Option.ne_none_iff_exists'.1 hs
  obtain ⟨st, hst⟩ := Option.ne_none_iff_exists'.1 (F.up_there hm.u1 h.inw.inv.nw)
  have y1 := F.fr _ _ hsn
  have y2 := F.fr _ _ hss
  have y3 := F.fr _ _ hst
  have hn := h.nx
  refine trv_yes h q (h.inw.go hm hs) (h.tx.led _ _) (h.sm.led _ _) (h.tx.went hm) rfl rfl (led_len _ _ _) ?_ ?_
  · intro d hd
    rcases List.mem_append.1 hd with q | q
    · exact u1.2 d q
    · exact u2.2 d q
  · rw [List.length_append]; have := u1.1; have := u2.1; omega
theorem trv_go (h : StT Q B C t m T w) {seq : Int} (hr : Rg seq) : Calls Tryz.prog 80 #[.pointer (some ⟨t, 0, none⟩), .int .i64 seq] w fun e w1 => ∃ v err, e = .returned (.tuple #[v, .int .u16 err]) ∧ Trv Q B C t m T w v err w1 := by
  have I := h.inw
  have hn := h.nx
  by_cases hs : look m.L seq = none
  · refine (go_none h.tw hr hs).mono ?_
    rintro e w' ⟨rfl, rfl⟩
    exact ⟨_, _, rfl, trv_no h (Below.refl _ _) (by decide)⟩
  · refine (go_any h.tw h.hC I.inv.fam (by omega) I.inv.nw hs).mono ?_
    rintro e w' ⟨v, rfl, q⟩
    exact ⟨_, _, rfl, trv_went h hs q⟩
end
end Go.Proofs.YtaefeakmlgjonaaGreat
