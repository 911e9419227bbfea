/- The call changeIn at an inner node; the call change. -/
import Derived.Test.YtfnhbjokokjhfabMend2
namespace Go.Proofs.Ytfnhbjokokjhfab
open Go.ChangeShapes Go.WideShapes Go.ChangeAt Go.RowKit
section
variable {o : Own} {w : World} {t : Nat} {s s' s1 : St} {vn vg : Value} {d a : Nat} {ls : List ByteArray} {js : List Nat}
/-- A call that leaves 'Q'. -/
def Leaves (f : FuncId) (args : Array Value) (w : World) (Q : World → Prop) : Prop := Calls Try.prog f args w fun e w' => e = .returned (.tuple #[]) ∧ Q w'
theorem changeInner (h : Rep o w t s vn vg) {at_ i : Nat} {n : Node} (hn : s.ns[at_]? = some n) (hk0 : 0 < n.kids.length) (hks : ∀ c ∈ n.kids, c < s.ns.length) (hi : i < 2 ^ 40) (fv : Value) (Q : World → Prop)
    (HR : ∀ k i' kd q : Nat, n.kids[k]? = some kd → i = ((n.kids.take k).map s.cnt).sum + i' → (i' < s.cnt kd ∨ k + 1 = n.kids.length) →
      Leaves 39 #[.pointer (some ⟨t, 0, none⟩), .int .i64 kd, .int .i64 i', fv] (w.drewN q) fun w1 => Leaves 44 #[.pointer (some ⟨t, 0, none⟩), .int .i64 at_, .int .i64 k] w1 fun w2 => Leaves 45 #[.pointer (some ⟨t, 0, none⟩), .int .i64 at_] w2 Q) :
    Leaves 39 #[.pointer (some ⟨t, 0, none⟩), .int .i64 at_, .int .i64 i, fv] w Q := by
  have lA : at_ < s.ns.length := (List.getElem?_eq_some_iff.1 hn).1
  obtain ⟨b, cap, hvn, hob, n1, n2, hcc⟩ := h.nodeCells (by omega)
  clear hcc
  obtain ⟨a0, ca0, ca1, ca2, ca3, cf⟩ := h.cellsAt hn hvn
  obtain ⟨kb, kc, hvk, hko, hk1, hk2, hkc⟩ := kidsCells h hn (by simp) hk0
  rw [hvk] at ca1
  rw [hvn] at a0
  have HL := last_any h hn
  rw [show decide (n.kids = []) = false by simp; exact List.ne_nil_of_length_pos hk0] at HL
  have HK := kid_any h hn hk0 hks hi
  have HKC : Hid (∀ (j : Nat) k, n.kids[j]? = some k → w.cell? ⟨kb, j, none⟩ = some (.int .i64 k)) := fun j k hj => (hkc j k hj).1
  have HRR : Hid (∀ k i' kd q : Nat, n.kids[k]? = some kd → i = ((n.kids.take k).map s.cnt).sum + i' → (i' < s.cnt kd ∨ k + 1 = n.kids.length) →
      Leaves 39 #[.pointer (some ⟨t, 0, none⟩), .int .i64 kd, .int .i64 i', fv] (w.drewN q) fun w1 => Leaves 44 #[.pointer (some ⟨t, 0, none⟩), .int .i64 at_, .int .i64 k] w1 fun w2 => Leaves 45 #[.pointer (some ⟨t, 0, none⟩), .int .i64 at_] w2 Q) := HR
  unfold maxLen at n2 hk2
  generalize hK : n.kids.length = K at ca1 hk1 hk0
  have HKL : Hid (n.kids.length = K) := hK
  clear h hn hkc hvn hvk ca0 ca2 ca3 cf HR hks hK
  unfold Leaves
  go_enter Try.func39, Try.ntmps39
  go_wp2_with (go_at_call 29; refine HL.mono ?_; rintro e w ⟨rfl, rfl⟩)
  refine HK.mono ?_
  rintro e w1 ⟨⟨k, i', kd, rfl, hkd, hsum, hor⟩, q, rfl⟩
  have hkl : k < K := by rw [← HKL.out]; exact (List.getElem?_eq_some_iff.1 hkd).1
  have hcell := HKC.out k kd hkd
  have HX : Hid (∀ q, Leaves 39 #[.pointer (some ⟨t, 0, none⟩), .int .i64 kd, .int .i64 i', fv] (w.drewN q) fun w1 => Leaves 44 #[.pointer (some ⟨t, 0, none⟩), .int .i64 at_, .int .i64 k] w1 fun w2 => Leaves 45 #[.pointer (some ⟨t, 0, none⟩), .int .i64 at_] w2 Q) := fun q => HRR.out k i' kd q hkd hsum hor
  clear hkd hsum hor HK HL
  go_wp2_with fail
  refine Calls.mono (HX.out _) ?_
  rintro e w2 ⟨rfl, H2⟩
  go_wp2_with fail
  refine Calls.mono H2 ?_
  rintro e w3 ⟨rfl, H3⟩
  go_wp2_with fail
  refine Calls.mono H3 ?_
  rintro e w4 ⟨rfl, H4⟩
  go_wp2_with fail
  go_end0
  exact ⟨rfl, H4⟩
end
/-- What is done to a list of lines at a place. -/
inductive Edit where
  | ins (y : ByteArray) | del | set (y : ByteArray)
def Edit.ok : Edit → Nat → Nat → Prop
  | .ins _, n, k => k ≤ n
  | .del, n, k => k < n
  | .set _, n, k => k < n
def Edit.run : Edit → List ByteArray → Nat → List ByteArray
  | .ins y, l, k => l.take k ++ y :: l.drop k
  | .del, l, k => l.take k ++ l.drop (k + 1)
  | .set y, l, k => l.set k y
def Edit.more : Edit → Nat
  | .ins y => y.size
  | .del => 0
  | .set y => y.size
theorem Edit.mid (e : Edit) (l m r : List ByteArray) (k : Nat) (h : e.ok m.length k) : e.run (l ++ (m ++ r)) (l.length + k) = l ++ (e.run m k ++ r) := by
  cases e with
  | ins y =>
    have h : k ≤ m.length := h
    simp only [Edit.run]
    rw [List.take_length_add_append, List.drop_length_add_append, List.take_append_of_le_length h, List.drop_append_of_le_length h]; simp
  | del =>
    have h : k < m.length := h
    simp only [Edit.run]
    rw [Nat.add_assoc, List.take_length_add_append, List.drop_length_add_append, List.take_append_of_le_length (by omega), List.drop_append_of_le_length (by omega)]; simp
  | set y =>
    have h : k < m.length := h
    simp only [Edit.run]
    rw [List.set_append_right _ _ (by omega), Nat.add_sub_cancel_left, List.set_append_left _ _ h]
theorem Edit.len (e : Edit) (l : List ByteArray) (k : Nat) (h : e.ok l.length k) : (e.run l k).length ≤ l.length + 1 ∧ l.length ≤ (e.run l k).length + 1 := by
  cases e with
  | ins y => have h : k ≤ l.length := h; simp [Edit.run]; omega
  | del => have h : k < l.length := h; simp [Edit.run]; omega
  | set y => simp [Edit.run]
theorem sizes_cons (y : ByteArray) (l : List ByteArray) : sizes (y :: l) = y.size + sizes l := by simp [sizes]
theorem sizes_cut (l : List ByteArray) (k : Nat) : sizes l = sizes (l.take k) + sizes (l.drop k) := by rw [← sizes_app, List.take_append_drop]
theorem Edit.size (e : Edit) (l : List ByteArray) (k : Nat) : sizes (e.run l k) ≤ sizes l + e.more := by
  cases e with
  | ins y => simp only [Edit.run, Edit.more, sizes_app, sizes_cons]; have := sizes_cut l k; omega
  | del => simp only [Edit.run, Edit.more, sizes_app]; have := sizes_cut l k; have := sizes_drop (l.drop k) 1; rw [List.drop_drop] at this; omega
  | set y =>
    simp only [Edit.run, Edit.more]
    by_cases h : k < l.length
    · rw [List.set_eq_take_append_cons_drop, if_pos h, sizes_app, sizes_cons]
      have := sizes_cut l k; have := sizes_drop (l.drop k) 1; rw [List.drop_drop] at this; omega
    · rw [List.set_eq_of_length_le (by omega)]; omega
/-- What a closure does to a leaf's lines. -/
def Does (f : FuncId) (caps : Array Value) (e : Edit) (o : Own) (w : World) : Prop := ∀ W : World, W.heap = w.heap → ∀ (g : Tag) (v : Value) (l : List ByteArray) (k : Nat), g ≠ .free → Row o W g 9 1 v l.length (strs l) → (∀ k, o k ≠ .free → k < W.heap.size) → e.ok l.length k → l.length < 100000000 →
  Calls Try.prog f (#[v, .int .i64 k] ++ caps) W fun ex w' => ∃ v', ex = .returned v' ∧ Turned o W g (e.run l k) v' w'
/-- The sub-tree at 'a' has the lines 'ls'' now; all else is as it was. -/
def Changed (s : St) (d a : Nat) (ls' : List ByteArray) (rest : List Nat) (s' : St) : Prop :=
  ∃ js', Sub s' d a ls' js' ∧ Full s' (js' ++ rest) ∧ (∀ x ∈ rest, s'.ns[x]? = s.ns[x]?) ∧ s'.wid a ≤ s.wid a + 1 ∧ s.wid a ≤ s'.wid a + 1 ∧ s'.ns.length ≤ s.ns.length + d ∧ s'.top = s.top
theorem changeIn_any {t : Nat} (e : Edit) (f : FuncId) (caps : Array Value) {fn : Func} (hf : Try.prog.funcs[f]? = some fn) (hnm : (fn.name == "runtime.NumGoroutine") = false) (hbd : fn.body.isNone = false) :
    ∀ (d : Nat) {s : St} {o : Own} {w : World} {vn vg : Value} {a i : Nat} {ls : List ByteArray} {js rest : List Nat}, Rep o w t s vn vg → Sub s d a ls js → Full s (js ++ rest) → s.wid a ≤ 8 → (0 < d → 2 ≤ s.wid a) → e.ok ls.length i → Does f caps e o w → ls.length < 2 ^ 39 → sizes ls + e.more < 2 ^ 62 → s.ns.length + d < 80000000 →
    Leaves 39 #[.pointer (some ⟨t, 0, none⟩), .int .i64 a, .int .i64 i, .func (.func f) #[] caps] w fun w' => ∃ s', Did o w t s' w' ∧ Changed s d a (e.run ls i) rest s'
  | 0, s, o, w, vn, vg, a, i, ls, js, rest, h, hs, hfl, hw8, _, hok, hdo, hb1, hb2, hns => by
    obtain ⟨rfl, v, hn⟩ := hs
    have hln := e.len ls i hok
    have hsz := e.size ls i
    have hwd : s.wid a = ls.length := by simp [St.wid, hn, Node.wid]
    have hap := hfl.apart (x := a) (by simp)
    refine (changeLeaf h (i := i) hn rfl f caps (e.run ls i) hf hnm hbd (fun W hW => ?_) (by omega) (by omega)).mono ?_
    · exact hdo W hW (.lines a) v ls i (by simp) ((h.heap hW).lines a _ hn (by simp)) (h.heap hW).lt hok (by omega)
    · rintro ex w' ⟨rfl, v', hD⟩
      have la := (List.getElem?_eq_some_iff.1 hn).1
      have hwd' : (s.put a ⟨v', .slice none 0 0, e.run ls i, [], (e.run ls i).length, sizes (e.run ls i)⟩).wid a = (e.run ls i).length := by simp [St.wid, put_same _ la, Node.wid]
      refine ⟨rfl, _, hD, [a], ⟨rfl, v', put_same _ la⟩, ⟨?_, fun g hg => ?_⟩, fun x hx => put_ne _ ?_, ?_, ?_, ?_, rfl⟩
      · rw [put_len]; exact hfl.perm
      · rw [put_ne _ (fun e => hap (by rw [← e]; exact hg))]; exact hfl.nil g hg
      · exact fun e' => hfl.ne (x := a) (y := x) (by simp) hx e'.symm
      · rw [hwd']; omega
      · rw [hwd']; omega
      · rw [put_len]; omega
  | d + 1, s, o, w, vn, vg, a, i, ls, js, rest, h, hs, hfl, hw8, hw2, hok, hdo, hb1, hb2, hns => by
    obtain ⟨u, ks, js', rfl, hn, hp, hA⟩ := hs
    have hA : All (Ok s d) ks ls js' := hA
    have hwd : s.wid a = ks.length := by simp [St.wid, hn, Node.wid]
    have hw2 := hw2 (by omega)
    rw [hwd] at hw8 hw2
    have hi : i < 2 ^ 40 := by
      have : i ≤ ls.length := by cases e with
        | ins y => exact hok
        | del => exact Nat.le_of_lt hok
        | set y => exact Nat.le_of_lt hok
      omega
    refine changeInner h hn hp (fun c hc => hfl.lt (by simp [hA.mem c hc])) hi _ _ ?_
    intro k i' kd q hkd hsum hor
    have hkd : ks[k]? = some kd := hkd
    have hkl : k < ks.length := (List.getElem?_eq_some_iff.1 hkd).1
    have hks : ks = ks.take k ++ kd :: ks.drop (k + 1) := by
      obtain ⟨_, e1⟩ := List.getElem?_eq_some_iff.1 hkd
      rw [← e1]; simp
    have hkl' : (ks.take k).length = k := by simp; omega
    have hsum : i = ((ks.take k).map s.cnt).sum + i' := hsum
    have hor : i' < s.cnt kd ∨ k + 1 = ks.length := hor
    rw [hks] at hA
    obtain ⟨lx, lz, jx, jz, rfl, rfl, hX, hZ⟩ := hA.cut
    obtain ⟨lc, ly, jc, jy, rfl, rfl, hC, hY⟩ := hZ
    rw [hX.cnt.1] at hsum
    rw [hC.1.cnt.1] at hor
    have hok' : e.ok lc.length i' := by
      have hyl : k + 1 = ks.length → ly = [] := fun e1 => by
        rw [List.drop_eq_nil_of_le (by omega)] at hY; exact hY.1
      subst hsum
      cases e with
      | ins y =>
        have : lx.length + i' ≤ (lx ++ (lc ++ ly)).length := hok
        simp at this
        show i' ≤ lc.length
        rcases hor with h1 | h1
        · omega
        · rw [hyl h1] at this; simp at this; omega
      | del =>
        have : lx.length + i' < (lx ++ (lc ++ ly)).length := hok
        simp at this
        show i' < lc.length
        rcases hor with h1 | h1
        · omega
        · rw [hyl h1] at this; simp at this; omega
      | set y =>
        have : lx.length + i' < (lx ++ (lc ++ ly)).length := hok
        simp at this
        show i' < lc.length
        rcases hor with h1 | h1
        · omega
        · rw [hyl h1] at this; simp at this; omega
    rw [hsum, e.mid _ _ _ _ hok']
    have hln := e.len lc i' hok'
    have hsz := e.size lc i'
    simp only [sizes_app, List.length_append] at hb1 hb2
    have hfc : Full s (jc ++ (jx ++ jy ++ a :: rest)) := hfl.perm' (by
      have e0 : jc ++ (jx ++ jy ++ a :: rest) = (jc ++ jx ++ jy) ++ a :: rest := by simp
      rw [e0]
      refine List.perm_middle.trans ?_
      rw [List.cons_append]
      refine List.Perm.cons _ ?_
      refine List.Perm.append_right _ ?_
      rw [← List.append_assoc]
      exact List.Perm.append_right _ List.perm_append_comm)
    have IH := changeIn_any e f caps hf hnm hbd d (h.drewN q) (i := i') hC.1 hfc hC.2.2 (fun _ => by have := hC.2.1; omega) hok' (fun W hW => hdo W (by rw [hW, drewN_heap])) (by omega) (by omega) (by omega)
    refine Calls.mono IH ?_
    rintro ex w1 ⟨rfl, s1, ⟨o1, vn1, vg1, h1, k1⟩, jc', c1, c2, c3, c4, c5, c6, c7⟩
    refine ⟨rfl, ?_⟩
    have hn1 : s1.ns[a]? = some ⟨.slice none 0 0, u, [], ks, (lx ++ (lc ++ ly)).length, sizes (lx ++ (lc ++ ly))⟩ := by rw [c3 a (by simp)]; exact hn
    have hX1 := hX.frame (s' := s1) fun x hx => c3 x (by simp [hx])
    have hY1 := hY.frame (s' := s1) fun x hx => c3 x (by simp [hx])
    have hf1 : Full s1 ((jx ++ (jc' ++ jy)) ++ a :: rest) := c2.perm' (by
      rw [← List.append_assoc, ← List.append_assoc]
      refine List.Perm.append_right _ ?_
      rw [← List.append_assoc]
      exact List.Perm.append_right _ List.perm_append_comm)
    have hwk := hC.2
    have hM := mend_any h1 (by omega) hn1 hw8 hw2 hks hX1 c1 hY1 (by omega) hf1 (by simp only [List.length_append]; omega) (by simp only [sizes_app]; omega)
    rw [hkl'] at hM
    refine Calls.mono hM ?_
    rintro ex w2 ⟨rfl, s2, m, ⟨o2, vn2, vg2, h2, k2⟩, ⟨ks2, js2, u2, m1, m2, m3, m4, m5, m6, m7, m8⟩, m9, m10⟩
    refine ⟨rfl, ?_⟩
    have hc2 := m2.cnt
    have hja : ∀ x ∈ js2, x ≠ a := fun x hx => m3.ne hx (by simp)
    have la := (List.getElem?_eq_some_iff.1 m1).1
    have m9' : m ≤ ks.length + 1 := m9
    have m10' : ks.length ≤ m + 1 := m10
    have hW := weigh_any h2 m1 (fun x hx => ⟨m3.lt (by simp [m2.mem x hx]), hja x (m2.mem x hx)⟩) (by
      show 0 + (ks2.map s2.cnt).sum < _; rw [hc2.1]; simp only [List.length_append]; omega) (by
      show sizes [] + (ks2.map s2.byt).sum < _; rw [hc2.2, show sizes [] = 0 from rfl]; simp only [sizes_app]; omega)
    refine Calls.mono hW ?_
    rintro ex w3 ⟨rfl, h3, k3⟩
    have e1 : ([] : List ByteArray).length + (ks2.map s2.cnt).sum = (lx ++ (e.run lc i' ++ ly)).length := by rw [hc2.1]; exact Nat.zero_add _
    have e2 : sizes [] + (ks2.map s2.byt).sum = sizes (lx ++ (e.run lc i' ++ ly)) := by rw [hc2.2]; exact Nat.zero_add _
    simp only [e1, e2] at h3
    refine ⟨rfl, _, ⟨o2, vn2, vg2, h3, ((Keeps.drewN o w q).trans k1).trans (k2.trans k3)⟩, a :: js2, ⟨u2, ks2, js2, rfl, put_same _ la, by omega, m2.frame fun x hx => put_ne _ (hja x hx)⟩, ⟨?_, fun g hg => ?_⟩, fun x hx => ?_, ?_, ?_, ?_, ?_⟩
    · rw [put_len]
      exact (List.Perm.append_right _ (List.perm_middle.symm)).trans m3.perm
    · rw [put_ne _ (fun e' => m3.apart (x := a) (by simp) (by rw [← e']; exact hg))]; exact m3.nil g hg
    · have hxa : x ≠ a := fun e' => by
        have := (List.nodup_append.1 (List.nodup_append.1 m3.nodup).1).2.1
        exact (List.nodup_cons.1 this).1 (by rw [← e']; exact hx)
      rw [put_ne _ hxa, m4 x hx, c3 x (by simp [hx])]
    · rw [hwd]; simp only [St.wid, put_same _ la, Option.map_some, Option.getD_some, Node.wid]; show 0 + ks2.length ≤ _; omega
    · rw [hwd]; simp only [St.wid, put_same _ la, Option.map_some, Option.getD_some, Node.wid]; show _ ≤ 0 + ks2.length + 1; omega
    · rw [put_len]; omega
    · show s2.top = s.top; rw [m8, c7]
end Go.Proofs.Ytfnhbjokokjhfab
