/- Texts that the proof of the law stands on: TzFns5, TzHand2, TzLeafc, TzPlain, TzGrow, TzMend, TzMend2, TzInner, TzChange. -/
import Derived.Test.YtaefeakmlgjonaaGreatPartG
/- The closures of Insert, Delete and Set; shrink; has. -/
namespace Go.Proofs.YtaefeakmlgjonaaGreat.Tz
set_option maxRecDepth 100000
open Go.ChangeShapes Go.WideShapes Go.ChangeAt Go.RowKit

/-- What a change of a leaf's lines leaves: 'l'' in a row of its owner's. -/
def Turned (o : Own) (w : World) (g : Tag) (l' : List ByteArray) (v' : Value) (w' : World) : Prop := ∃ o', Row o' w' g 9 1 v' l'.length (strs l') ∧ KB g o o' w w'
theorem insertF_any {o : Own} {w : World} {g : Tag} {v : Value} {l : List ByteArray} {i lb : Nat} {y : ByteArray} (hr : Row o w g 9 1 v l.length (strs l)) (hlt : ∀ k, o k ≠ .free → k < w.heap.size) (hg : g ≠ .free) (hi : i ≤ l.length) (hn : l.length < 400000000) (hy : w.cell? ⟨lb, 0, none⟩ = some (.string y)) :
    Calls Tryz.prog 178 #[v, .int .i64 i, .pointer (some ⟨lb, 0, none⟩)] w fun e w' => ∃ v', e = .returned v' ∧ Turned o w g (l.take i ++ y :: l.drop i) v' w' := by
  obtain ⟨a, c, rfl, h1, h2⟩ := hr.form
  have HC : Hid (Calls Tryz.prog 179 #[.slice a l.length c, .int .i64 i, .slice (some ⟨w.heap.size, 0, none⟩) 1 1] (w.alloc (.cells #[.string y] 9)) fun e w' => ∃ v', e = .returned v' ∧ Turned o w g (l.take i ++ y :: l.drop i) v' w') := by
    have hr' : Row o (w.alloc (.cells #[.string y] 9)) g 9 1 (.slice a l.length c) l.length (strs l) := hr.same fun k hk => alloc_old' w _ k (hr.lt hk)
    have hfree : o w.heap.size = .free := by
      by_cases h : o w.heap.size = .free
      · exact h
      · exact absurd (hlt _ h) (by omega)
    refine (insS_any (x := .string y) (vb := w.heap.size) hr' (strs_one _) (fun k hk => by have := hlt k hk; simp; omega) hg hi (by omega) (alloc_new w _) rfl hfree).mono ?_
    rintro e w' ⟨v', o', rfl, hrow, hkb⟩
    refine ⟨v', rfl, o', ?_, ?_⟩
    · have hlen : (l.take i ++ y :: l.drop i).length = l.length + 1 := by simp; omega
      rw [hlen]; simpa [strs, List.map_take, List.map_drop] using hrow
    · have k0 : KB g o o w (w.alloc (.cells #[.string y] 9)) := KB.below ((Below.refl _ w).alloc (Nat.le_refl _) _) hlt
      exact k0.trans hg hkb
  clear hr hlt
  go_enter Tryz.func178, Tryz.ntmps178
  go_wp2_with (go_at_call 179; refine HC.out.mono ?_; rintro e w1 ⟨v', rfl, HF⟩)
  go_ret
  exact ⟨_, rfl, HF⟩
theorem deleteF_any {o : Own} {w : World} {g : Tag} {v : Value} {l : List ByteArray} {i : Nat} (hr : Row o w g 9 1 v l.length (strs l)) (hlt : ∀ k, o k ≠ .free → k < w.heap.size) (hg : g ≠ .free) (hi : i < l.length) (hn : l.length < 400000000) :
    Calls Tryz.prog 176 #[v, .int .i64 i] w fun e w' => ∃ v', e = .returned v' ∧ Turned o w g (l.take i ++ l.drop (i + 1)) v' w' := by
  have HC : Hid (Calls Tryz.prog 177 #[v, .int .i64 i, .int .i64 ((i : Int) + 1)] w fun e w' => ∃ v', e = .returned v' ∧ Turned o w g (l.take i ++ l.drop (i + 1)) v' w') := by
    have hc := delS_any (i := i) (j := i + 1) hr hlt hg (by omega) (by omega)
    have ek : (((i + 1 : Nat)) : Int) = (i : Int) + 1 := by omega
    rw [ek] at hc
    refine hc.mono ?_
    rintro e w' ⟨v', rfl, _, hrow, hkb⟩
    refine ⟨v', rfl, o, ?_, hkb⟩
    have hlen : (l.take i ++ l.drop (i + 1)).length = l.length - (i + 1 - i) := by simp; omega
    rw [hlen]; exact hrow
  clear hr hlt
  go_enter Tryz.func176, Tryz.ntmps176
  go_wp2_with (go_at_call 177; refine HC.out.mono ?_; rintro e w1 ⟨v', rfl, HF⟩)
  go_ret
  exact ⟨_, rfl, HF⟩
theorem setF_any {o : Own} {w : World} {g : Tag} {v : Value} {l : List ByteArray} {i lb : Nat} {y : ByteArray} (hr : Row o w g 9 1 v l.length (strs l)) (hlt : ∀ k, o k ≠ .free → k < w.heap.size) (hi : i < l.length) (hy : w.cell? ⟨lb, 0, none⟩ = some (.string y)) :
    Calls Tryz.prog 175 #[v, .int .i64 i, .pointer (some ⟨lb, 0, none⟩)] w fun e w' => ∃ v', e = .returned v' ∧ Turned o w g (l.set i y) v' w' := by
  obtain ⟨b, cap, cur, rfl, hob, hb, h1, h2, h3, h4⟩ := hr.shape (by omega)
  simp only [Nat.mul_one] at h3 h4
  have hc : w.cell? ⟨b, i, none⟩ = some (.string l[i]) := (row_cell (size := 1) (n := l.length) hb (by simpa using h4) (cap := cap) (by simp [strs, hi])).1
  have hf : w.frozen? ⟨b, i, none⟩ = false := frozen_at hb _
  have HF : Hid (Turned o w g (l.set i y) (.slice (some ⟨b, 0, none⟩) l.length cap) (w.setCell ⟨b, i, none⟩ (.string y))) := by
    refine ⟨o, ?_, KB.setCells (b := b) hob hlt i [.string y]⟩
    rw [List.length_set]
    refine Row.put (L := cur.toList.set i (.string y)) hob ?_ h1 h2 (by simpa using h3) ?_
    · rw [heap_setCell hb]; congr 2; apply Array.ext'; simp
    · rw [List.take_set, h4]; simp [strs]
  unfold maxLen at h2
  clear hr hlt hb h3 h4
  go_enter Tryz.func175, Tryz.ntmps175
  go_wp2
  go_ret
  exact ⟨_, rfl, HF.out⟩
section
variable {o : Own} {w : World} {t : Nat} {s : St} {vn vg : Value}
theorem has_any (h : Rep o w t s vn vg) {n : Node} (hn : s.ns[s.top]? = some n) (hc : n.count < 2 ^ 60) (i m : Int) (hi : -9223372036854775808 ≤ i ∧ i ≤ 9223372036854775807) :
    Calls Tryz.prog 93 #[.pointer (some ⟨t, 0, none⟩), .int .i64 i, .int .i64 m] w fun e w' => e = .returned (.bool (decide (0 ≤ i ∧ 0 ≤ m ∧ m ≤ n.count - i))) ∧ ∃ q, w' = w.drewN q := by
  have HL := len_any h hn
  clear h hn
  by_cases h1 : 0 ≤ i
  · by_cases h2 : 0 ≤ m
    · have e : decide (0 ≤ i ∧ 0 ≤ m ∧ m ≤ n.count - i) = decide (m ≤ n.count - i) := by simp [h1, h2]
      rw [e]
      go_enter Tryz.func93, Tryz.ntmps93
      go_wp2_with (go_at_call 52; refine HL.mono ?_; rintro e w1 ⟨rfl, q, rfl⟩)
      go_ret
      exact ⟨rfl, _, rfl⟩
    · have e : decide (0 ≤ i ∧ 0 ≤ m ∧ m ≤ n.count - i) = false := by simp [h2]
      rw [e]
      go_enter Tryz.func93, Tryz.ntmps93
      go_wp2
      go_ret
      exact ⟨rfl, 0, rfl⟩
  · have e : decide (0 ≤ i ∧ 0 ≤ m ∧ m ≤ n.count - i) = false := by simp [h1]
    rw [e]
    go_enter Tryz.func93, Tryz.ntmps93
    go_wp2
    go_ret
    exact ⟨rfl, 0, rfl⟩
theorem shrink_any (h : Rep o w t s vn vg) {n : Node} {c : Nat} (hn : s.ns[s.top]? = some n) (hc : n.kids[0]? = some c) (hg : s.gone.length < 400000000) :
    Calls Tryz.prog 194 #[.pointer (some ⟨t, 0, none⟩)] w fun e w' => e = .returned (.tuple #[]) ∧ Did o w t { s.put s.top nilNode with top := c, gone := s.gone ++ [s.top] } w' := by
  have htop : s.top < s.ns.length := (List.getElem?_eq_some_iff.1 hn).1
  obtain ⟨b, cap, hvn, ho, h1, h2, hcc⟩ := h.nodeCells (by omega)
  clear hcc
  obtain ⟨a0, c0, c1, c2, c3, hf⟩ := h.cellsAt hn hvn
  have a2 := h.at2
  have f2 := h.atF 2
  obtain ⟨kb, kc, hvk, hko, hk1, hk2, hkc⟩ := kidsCells h hn (by simp) (by have := (List.getElem?_eq_some_iff.1 hc).1; omega)
  have hkp := (List.getElem?_eq_some_iff.1 hc).1
  have kc0 := (hkc 0 c hc).1
  rw [hvk] at c1
  have HD : Hid (Calls Tryz.prog 210 #[.pointer (some ⟨t, 0, none⟩), .int .i64 s.top] (w.setCell ⟨t, 2, none⟩ (.int .i64 c)) fun e w' => e = .returned (.tuple #[]) ∧ Did o w t { s.put s.top nilNode with top := c, gone := s.gone ++ [s.top] } w') := by
    have hr := h.storeTop c
    refine (drop_any hr (at_ := s.top) hn (show s.gone.length < 1000000000 by omega)).mono ?_
    rintro e w' ⟨rfl, o', vn', vg', q1, q2⟩
    exact ⟨rfl, o', vn', vg', q1, ((Keeps.refl o w).setCell (by rw [h.ot]; simp)).trans q2⟩
  rw [hvn] at a0
  unfold maxLen at h2 hk2
  clear h hn hc hkc hvn hvk c0 c2 c3
  go_enter Tryz.func194, Tryz.ntmps194
  go_wp2_with (go_at_call 210; refine HD.out.mono ?_; rintro e w1 ⟨rfl, HF⟩)
  go_end0
  exact ⟨rfl, HF⟩
end
end Go.Proofs.YtaefeakmlgjonaaGreat.Tz
/- A call through a function value comes up alone in a region that draws its order. -/
namespace Go.Proofs.YtaefeakmlgjonaaGreat.Tz
set_option maxRecDepth 100000
open Go.ChangeShapes Go.WideShapes Go.ChangeAt Go.RowKit

theorem callVal {P : Program} {ops : Array Oper} {Q : Exit → Act → World → Prop} {md : Region.Mode} {S : World → Prop} (i : Nat) (d : Tmp) (c : Operand) (f : FuncId) (caps : Array Value) {o : Oper} {fn : Func} {fuel : Nat} {listed : Array Bool} {a : Act} {w : World} {xs : Array Operand} {ats : Array TypeId} {vals : Array Value}
    (hr : Region.ready md ops listed = [i]) (ho : ops[i]? = some o) (hop : o.op = .call { callee := .value c, args := xs, argTypes := ats }) (hd : o.dst = some d) (hg : o.guard = none) (hv : xs.map a.eval = vals)
    (hc : a.eval c = .func (.func f) #[] caps)
    (hf : P.funcs[f]? = some fn) (hn : (fn.name == "runtime.NumGoroutine") = false) (hb : fn.body.isNone = false)
    (h : Calls P f (vals ++ caps) w fun e w' => ∃ v, e = .returned v ∧ S w' ∧ (S w' → wpAnyH P md ops Q S fuel (listed.setIfInBounds i true) (a.put (some d) v) w')) : wpAnyH P md ops Q S (fuel + 1) listed a w := by
  refine wpAnyH_ready hr (by simp) ?_
  refine AllReadyH.cons ho (fun K hK => ?_) AllReadyH.nil
  have hw : Region.wanted o (yielded ops a.tmps) = true := by simp [Region.wanted, hg]
  rw [if_pos hw]
  obtain ⟨dst, op, type, pos, after, guard⟩ := o
  simp only at hop hd hg
  subst hop; subst hd; subst hg
  unfold Oper.wp
  have hrun : (execOp a.eval { dst := some d, op := .call { callee := .value c, args := xs, argTypes := ats }, type, pos, after, guard := none }).run P w = .ok (.enter f (vals ++ caps)) w := by
    have h2 := run_callGo (P := P) (vals ++ caps) w hf hn hb
    subst hv
    simp [execOp, resolve, invoke, hc, Deferred.ofValue, h2]
  rw [hrun]
  simp only [Oper.upon]
  refine Calls.mono h ?_
  rintro e w' ⟨v, rfl, hS, hW⟩
  exact hK.out _ _ hS hW
end Go.Proofs.YtaefeakmlgjonaaGreat.Tz
/- The call changeIn at a node of the last level, whatever closure it is handed. -/
namespace Go.Proofs.YtaefeakmlgjonaaGreat.Tz
set_option maxRecDepth 100000
open Go.ChangeShapes Go.WideShapes Go.ChangeAt Go.RowKit
section
variable {o : Own} {w : World} {t : Nat} {s : St} {vn vg : Value}
set_option maxHeartbeats 4000000 in
theorem changeLeaf (h : Rep o w t s vn vg) {at_ i : Nat} {n : Node} (hn : s.ns[at_]? = some n) (hk0 : n.kids = []) (f : FuncId) (caps : Array Value) {fn : Func} (l' : List ByteArray)
    (hf : Tryz.prog.funcs[f]? = some fn) (hnm : (fn.name == "runtime.NumGoroutine") = false) (hbd : fn.body.isNone = false)
    (hdo : ∀ W : World, W.heap = w.heap → Calls Tryz.prog f (#[n.vl, .int .i64 i] ++ caps) W fun e w' => ∃ v', e = .returned v' ∧ Turned o W (.lines at_) l' v' w') (hb1 : l'.length < 2 ^ 62) (hb2 : sizes l' < 2 ^ 62) :
    Calls Tryz.prog 191 #[.pointer (some ⟨t, 0, none⟩), .int .i64 at_, .int .i64 i, .func (.func f) #[] caps] w fun e w' => e = .returned (.tuple #[]) ∧ ∃ v', Did o w t (s.put at_ ⟨v', n.vk, l', [], l'.length, sizes l'⟩) w' := by
  have htop : at_ < s.ns.length := (List.getElem?_eq_some_iff.1 hn).1
  obtain ⟨b, cap, hvn, ho, h1, h2, hcc⟩ := h.nodeCells (by omega)
  clear hcc
  obtain ⟨a0, c0, c1, c2, c3, cf⟩ := h.cellsAt hn hvn
  have HL := last_any h hn
  rw [show decide (n.kids = []) = true by simp [hk0]] at HL
  obtain ⟨N, hN⟩ : ∃ N, s.ns.length = N := ⟨_, rfl⟩
  have HN : Hid (s.ns.length = N) := hN
  have GV : Hid (vn = .slice (some ⟨b, 0, none⟩) s.ns.length cap) := hvn
  rw [hvn, hN] at a0
  rw [hN] at htop h1
  have hbN : o b = .nodes := h.nodes.2 b (by rw [hvn]; rfl)
  have htb : b ≠ t := by intro e; rw [e, h.ot] at hbN; cases hbN
  have hbl : b < w.heap.size := h.lt b (by rw [hbN]; simp)
  have HC : Hid (∀ W : World, W.heap = w.heap → W.os = w.os → W.tape = w.tape → W.output = w.output → Calls Tryz.prog f (#[n.vl, .int .i64 i] ++ caps) W fun e w' =>
      ∃ x6 y6, e = .returned (.slice x6 l'.length y6) ∧ (∀ j, w'.cell? ⟨b, j, none⟩ = w.cell? ⟨b, j, none⟩ ∧ w'.frozen? ⟨b, j, none⟩ = false ∧ w'.cell? ⟨t, j, none⟩ = w.cell? ⟨t, j, none⟩) ∧
        ∃ o2, Rep o2 (w'.setCell ⟨b, at_ * 4, none⟩ (.slice x6 l'.length y6)) t (s.put at_ { n with vl := .slice x6 l'.length y6, lines := l' }) vn vg ∧ Keeps o o2 w (w'.setCell ⟨b, at_ * 4, none⟩ (.slice x6 l'.length y6))) := by
    intro W e1 e2 e3 e4
    refine (hdo W e1).mono ?_
    rintro e w' ⟨v', rfl, o2, hr2, kb2⟩
    obtain ⟨x6, y6, rfl, _, _⟩ := hr2.form
    have hr0 : Rep o W t s vn vg := h.heap e1
    have hb6 : w'.heap[b]? = w.heap[b]? := by rw [kb2.block b (by rw [e1]; exact hbl) (by rw [hbN]; simp), e1]
    have ht6 : w'.heap[t]? = w.heap[t]? := by rw [kb2.block t hr0.tlt (by rw [hr0.ot]; simp), e1]
    refine ⟨x6, y6, rfl, fun j => ⟨by simp [World.cell?, hb6], ?_, by simp [World.cell?, ht6]⟩, o2, ?_⟩
    · have : w'.frozen? ⟨b, j, none⟩ = w.frozen? ⟨b, j, none⟩ := by simp [World.frozen?, hb6]
      rw [this]; exact cf j
    · have x1 := (RepX.open_ hr0 (.lines at_)).kb kb2 (by simp) (by simp) (by simp)
      have x2 := x1.storeL (l := l') (.inl rfl) hn GV.out hr2
      have k0 : Keeps o o w W := ⟨e2, e3, e4, by rw [e1]; exact Nat.le_refl _, fun j _ _ => by rw [e1], fun _ _ hf => hf⟩
      exact ⟨x2, (k0.trans (kb2.keeps (by simp))).setCell (x2.ob GV.out)⟩
  have HW : Hid (∀ (W : World) o2 v, Rep o2 W t (s.put at_ { n with vl := v, lines := l' }) vn vg → Keeps o o2 w W → Calls Tryz.prog 208 #[.pointer (some ⟨t, 0, none⟩), .int .i64 at_] W fun e w' => e = .returned (.tuple #[]) ∧ Did o w t (s.put at_ ⟨v, n.vk, l', [], l'.length, sizes l'⟩) w') := by
    intro W o2 v hr2 hk2
    have hw := weigh_any hr2 (put_same _ (by rw [HN.out]; exact htop)) (fun c hc => by rw [show ({ n with vl := v, lines := l' } : Node).kids = [] from hk0] at hc; cases hc)
      (by show l'.length + (n.kids.map _).sum < _; rw [hk0]; simpa using hb1) (by show sizes l' + (n.kids.map _).sum < _; rw [hk0]; simpa using hb2)
    refine hw.mono ?_
    rintro e w' ⟨rfl, q1, q2⟩
    refine ⟨rfl, o2, vn, vg, ?_, hk2.trans q2⟩
    rw [put_put] at q1
    simpa [hk0] using q1
  clear h hn hvn hN c1 c2 c3 hdo hk0
  have rule : ∀ w', Tk t (.slice (some ⟨b, 0, none⟩) N cap) w' → w'.cell? ⟨t, 0, none⟩ = some (.slice (some ⟨b, 0, none⟩) N cap) := fun _ h => h
  unfold maxLen at h2
  go_enter Tryz.func191, Tryz.ntmps191
  go_wp2_with (go_at_call 94; refine HL.mono ?_; rintro e w1 ⟨rfl, rfl⟩)
  refine wp_region_noPanic ?_
  refine wp_region_held_drew (S := Tk t (.slice (some ⟨b, 0, none⟩) N cap)) (by kernel_rfl) (a0) (fun hHeld => ?_)
  refine takeAt 0 (some 13) ?_ rfl rfl (by kernel_rfl) (by kernel_rfl) (by kernel_rfl) (fun _ _ _ h => h) (Or.inl ⟨by rfl, ?_⟩) hHeld ?_
  rotate_left
  · intro w hSw
    go_simp <;> with_reducible rfl
  try simp only [Act.put, List.setIfInBounds_toArray, List.set_cons_zero, List.set_cons_succ]
  refine takeAt 1 (some 14) ?_ rfl rfl (by kernel_rfl) (by kernel_rfl) (by kernel_rfl) (fun _ _ _ h => h) (Or.inl ⟨by rfl, ?_⟩) hHeld ?_
  rotate_left
  · intro w hSw
    go_simp <;> with_reducible rfl
  try simp only [Act.put, List.setIfInBounds_toArray, List.set_cons_zero, List.set_cons_succ]
  refine takeAt 2 (some 15) ?_ rfl rfl (by kernel_rfl) (by kernel_rfl) (by kernel_rfl) (fun _ _ _ h => h) (Or.inl ⟨by rfl, ?_⟩) hHeld ?_
  rotate_left
  · intro w hSw
    go_simp <;> with_reducible rfl
  try simp only [Act.put, List.setIfInBounds_toArray, List.set_cons_zero, List.set_cons_succ]
  refine takeAt 3 (some 16) ?_ rfl rfl (by kernel_rfl) (by kernel_rfl) (by kernel_rfl) (fun _ _ _ h => h) (Or.inl ⟨by rfl, ?_⟩) hHeld ?_
  rotate_left
  · intro w hSw
    go_simp <;> with_reducible rfl
  try simp only [Act.put, List.setIfInBounds_toArray, List.set_cons_zero, List.set_cons_succ]
  refine takeAt 4 (some 17) ?_ rfl rfl (by kernel_rfl) (by kernel_rfl) (by kernel_rfl) (fun _ _ _ h => h) (Or.inl ⟨by rfl, ?_⟩) hHeld ?_
  rotate_left
  · intro w hSw
    go_simp <;> with_reducible rfl
  try simp only [Act.put, List.setIfInBounds_toArray, List.set_cons_zero, List.set_cons_succ]
  refine takeAt 5 (some 18) ?_ rfl rfl (by kernel_rfl) (by kernel_rfl) (by kernel_rfl) (fun _ _ _ h => h) (Or.inl ⟨by rfl, ?_⟩) hHeld ?_
  rotate_left
  · intro w hSw
    go_simp <;> with_reducible rfl
  try simp only [Act.put, List.setIfInBounds_toArray, List.set_cons_zero, List.set_cons_succ]
  refine takeAt 6 (some 19) ?_ rfl rfl (by kernel_rfl) (by kernel_rfl) (by kernel_rfl) (fun _ _ _ h => h) (Or.inl ⟨by rfl, ?_⟩) hHeld ?_
  rotate_left
  · intro w hSw
    go_simp <;> with_reducible rfl
  try simp only [Act.put, List.setIfInBounds_toArray, List.set_cons_zero, List.set_cons_succ]
  refine takeAt 7 (some 20) ?_ rfl rfl (by kernel_rfl) (by kernel_rfl) (by kernel_rfl) (fun _ _ _ h => h) (Or.inl ⟨by rfl, ?_⟩) hHeld ?_
  rotate_left
  · intro w hSw
    go_simp <;> with_reducible rfl
  try simp only [Act.put, List.setIfInBounds_toArray, List.set_cons_zero, List.set_cons_succ]
  refine takeAt 8 (some 21) ?_ rfl rfl (by kernel_rfl) (by kernel_rfl) (by kernel_rfl) (fun _ _ _ h => h) (Or.inl ⟨by rfl, ?_⟩) hHeld ?_
  rotate_left
  · intro w hSw
    go_simp <;> with_reducible rfl
  try simp only [Act.put, List.setIfInBounds_toArray, List.set_cons_zero, List.set_cons_succ]
  refine takeAt 9 (some 22) ?_ rfl rfl (by kernel_rfl) (by kernel_rfl) (by kernel_rfl) (fun _ _ _ h => h) (Or.inl ⟨by rfl, ?_⟩) hHeld ?_
  rotate_left
  · intro w hSw
    go_simp <;> with_reducible rfl
  try simp only [Act.put, List.setIfInBounds_toArray, List.set_cons_zero, List.set_cons_succ]
  refine takeAt 10 (some 23) ?_ rfl rfl (by kernel_rfl) (by kernel_rfl) (by kernel_rfl) (fun _ _ _ h => h) (Or.inl ⟨by rfl, ?_⟩) hHeld ?_
  rotate_left
  · intro w hSw
    go_simp <;> with_reducible rfl
  try simp only [Act.put, List.setIfInBounds_toArray, List.set_cons_zero, List.set_cons_succ]
  refine takeAt 11 (some 24) ?_ rfl rfl (by kernel_rfl) (by kernel_rfl) (by kernel_rfl) (fun _ _ _ h => h) (Or.inl ⟨by rfl, ?_⟩) hHeld ?_
  rotate_left
  · intro w hSw
    go_simp <;> with_reducible rfl
  try simp only [Act.put, List.setIfInBounds_toArray, List.set_cons_zero, List.set_cons_succ]
  refine takeAt 12 (some 25) ?_ rfl rfl (by kernel_rfl) (by kernel_rfl) (by kernel_rfl) (fun _ _ _ h => h) (Or.inl ⟨by rfl, ?_⟩) hHeld ?_
  rotate_left
  · intro w hSw
    go_simp <;> with_reducible rfl
  try simp only [Act.put, List.setIfInBounds_toArray, List.set_cons_zero, List.set_cons_succ]
  refine takeAt 14 (some 27) ?_ rfl rfl (by kernel_rfl) (by kernel_rfl) (by kernel_rfl) (fun _ _ _ h => h) (Or.inl ⟨by rfl, ?_⟩) hHeld ?_
  rotate_left
  · intro w hSw
    go_simp <;> with_reducible rfl
  try simp only [Act.put, List.setIfInBounds_toArray, List.set_cons_zero, List.set_cons_succ]
  refine wpAnyH_ready (rs := [13]) (by kernel_rfl) (by simp) ?_
  refine AllReadyH.cons rfl (fun K hK => ?_) AllReadyH.nil
  go_simp
  refine hK.out _ _ hHeld (fun hHeld => ?_)
  clear hK K
  try simp only [Act.put, List.setIfInBounds_toArray, List.set_cons_zero, List.set_cons_succ]
  refine callVal 15 28 (.tmp 18) f caps (vals := #[n.vl, .int .i64 i]) (by kernel_rfl) rfl rfl rfl rfl (by simp [Act.eval]) (by simp [Act.eval]) hf hnm hbd ?_
  refine (HC.out _ (by rfl) (by rfl) (by rfl) (by rfl)).mono ?_
  rintro e w6 ⟨x6, y6, rfl, p6, o6, h6, k6⟩
  refine ⟨_, rfl, show Tk _ _ _ from ((p6 0).2.2).trans a0, fun hHeld => ?_⟩
  have q2 := ((p6 (at_ * 4)).1).trans c0
  have q3 := (p6 (at_ * 4)).2.1
  clear p6
  try simp only [Act.put, List.setIfInBounds_toArray, List.set_cons_zero, List.set_cons_succ]
  refine takeAt 16 (some 29) ?_ rfl rfl (by kernel_rfl) (by kernel_rfl) (by kernel_rfl) (fun _ _ _ h => h) (Or.inl ⟨by rfl, ?_⟩) hHeld ?_
  rotate_left
  · intro w hSw
    go_simp <;> with_reducible rfl
  try simp only [Act.put, List.setIfInBounds_toArray, List.set_cons_zero, List.set_cons_succ]
  refine takeAt 17 (some 30) ?_ rfl rfl (by kernel_rfl) (by kernel_rfl) (by kernel_rfl) (fun _ _ _ h => h) (Or.inl ⟨by rfl, ?_⟩) hHeld ?_
  rotate_left
  · intro w hSw
    go_simp <;> with_reducible rfl
  try simp only [Act.put, List.setIfInBounds_toArray, List.set_cons_zero, List.set_cons_succ]
  refine wpAnyH_ready (rs := [18]) (by kernel_rfl) (by simp) ?_
  refine AllReadyH.cons rfl (fun K hK => ?_) AllReadyH.nil
  go_simp
  refine hK.out _ _ (show Tk _ _ _ from ?_) (fun hHeld => ?_)
  · exact (World.cell?_setCell_other _ _ _ _ (fun e => htb (by injection e))).trans hHeld
  clear hK K
  try simp only [Act.put, List.setIfInBounds_toArray, List.set_cons_zero, List.set_cons_succ]
  refine wpAnyH_done (by kernel_rfl) ?_ _
  refine NoPanic.normal ?_
  go_wp2_with fail
  refine (HW.out _ _ _ h6 k6).mono ?_
  rintro e w7 ⟨rfl, h7⟩
  go_wp2_with fail
  go_end0
  exact ⟨rfl, _, h7⟩
end
end Go.Proofs.YtaefeakmlgjonaaGreat.Tz
/- The tree as plain data: what stands below a number, and what it means that it is a tree of the right shape. -/
namespace Go.Proofs.YtaefeakmlgjonaaGreat.Tz
set_option maxRecDepth 100000
open Go.ChangeShapes Go.WideShapes Go.ChangeAt Go.RowKit

def All (P : Nat → List ByteArray → List Nat → Prop) : List Nat → List ByteArray → List Nat → Prop
  | [], ls, js => ls = [] ∧ js = []
  | c :: cs, ls, js => ∃ l1 l2 j1 j2, ls = l1 ++ l2 ∧ js = j1 ++ j2 ∧ P c l1 j1 ∧ All P cs l2 j2
theorem All.append {P : Nat → List ByteArray → List Nat → Prop} {xs ys : List Nat} {l1 l2 : List ByteArray} {j1 j2 : List Nat} (h1 : All P xs l1 j1) (h2 : All P ys l2 j2) : All P (xs ++ ys) (l1 ++ l2) (j1 ++ j2) := by
  induction xs generalizing l1 j1 with
  | nil => obtain ⟨rfl, rfl⟩ := h1; exact h2
  | cons c cs ih =>
    obtain ⟨a1, a2, b1, b2, rfl, rfl, hp, hr⟩ := h1
    exact ⟨a1, a2 ++ l2, b1, b2 ++ j2, by simp, by simp, hp, ih hr⟩
theorem All.cut {P : Nat → List ByteArray → List Nat → Prop} {xs ys : List Nat} {ls : List ByteArray} {js : List Nat} (h : All P (xs ++ ys) ls js) : ∃ l1 l2 j1 j2, ls = l1 ++ l2 ∧ js = j1 ++ j2 ∧ All P xs l1 j1 ∧ All P ys l2 j2 := by
  induction xs generalizing ls js with
  | nil => exact ⟨[], ls, [], js, rfl, rfl, ⟨rfl, rfl⟩, h⟩
  | cons c cs ih =>
    obtain ⟨a1, a2, b1, b2, rfl, rfl, hp, hr⟩ := h
    obtain ⟨l1, l2, j1, j2, rfl, rfl, h1, h2⟩ := ih hr
    exact ⟨a1 ++ l1, l2, b1 ++ j1, j2, by simp, by simp, ⟨a1, l1, b1, j1, rfl, rfl, hp, h1⟩, h2⟩
theorem All.one {P : Nat → List ByteArray → List Nat → Prop} {c : Nat} {l : List ByteArray} {j : List Nat} (h : P c l j) : All P [c] l j := ⟨l, [], j, [], by simp, by simp, h, rfl, rfl⟩
theorem All.two {P : Nat → List ByteArray → List Nat → Prop} {c d : Nat} {l m : List ByteArray} {j k : List Nat} (h : P c l j) (h' : P d m k) : All P [c, d] (l ++ m) (j ++ k) := ⟨l, m, j, k, rfl, rfl, h, .one h'⟩
theorem All.head {P : Nat → List ByteArray → List Nat → Prop} {c : Nat} {l : List ByteArray} {j : List Nat} (h : All P [c] l j) : P c l j := by
  obtain ⟨a1, a2, b1, b2, rfl, rfl, hp, rfl, rfl⟩ := h; simpa using hp
theorem All.mono {P Q : Nat → List ByteArray → List Nat → Prop} {cs : List Nat} {ls : List ByteArray} {js : List Nat} (h : All P cs ls js) (hq : ∀ c ∈ cs, ∀ l j, (∀ x ∈ j, x ∈ js) → P c l j → Q c l j) : All Q cs ls js := by
  induction cs generalizing ls js with
  | nil => exact h
  | cons c cs ih =>
    obtain ⟨a1, a2, b1, b2, rfl, rfl, hp, hr⟩ := h
    exact ⟨a1, a2, b1, b2, rfl, rfl, hq c (by simp) _ _ (fun x hx => by simp [hx]) hp, ih hr fun c' hc l j hj => hq c' (by simp [hc]) l j fun x hx => by simp [hj x hx]⟩

def Node.wid (n : Node) : Nat := n.lines.length + n.kids.length
def St.wid (s : St) (c : Nat) : Nat := ((s.ns[c]?).map Node.wid).getD 0
/-- Below number 'a', 'd' levels above the last one, stand the lines 'ls', in nodes of the numbers 'js'. -/
def Sub (s : St) : Nat → Nat → List ByteArray → List Nat → Prop
  | 0, a, ls, js => js = [a] ∧ ∃ v, s.ns[a]? = some ⟨v, .slice none 0 0, ls, [], ls.length, sizes ls⟩
  | d + 1, a, ls, js => ∃ u ks js', js = a :: js' ∧ s.ns[a]? = some ⟨.slice none 0 0, u, [], ks, ls.length, sizes ls⟩ ∧ 0 < ks.length ∧ All (fun c l j => Sub s d c l j ∧ 4 ≤ s.wid c ∧ s.wid c ≤ 8) ks ls js'
def Ok (s : St) (d : Nat) (c : Nat) (l : List ByteArray) (j : List Nat) : Prop := Sub s d c l j ∧ 4 ≤ s.wid c ∧ s.wid c ≤ 8

section
variable {s s' : St} {d a : Nat} {ls : List ByteArray} {js : List Nat}
theorem Sub.mem (h : Sub s d a ls js) : a ∈ js := by
  cases d with
  | zero => rw [h.1]; simp
  | succ d => obtain ⟨u, ks, js', rfl, _⟩ := h; simp
theorem All.mem {ks : List Nat} (h : All (Ok s d) ks ls js) : ∀ c ∈ ks, c ∈ js := by
  induction ks generalizing ls js with
  | nil => intro c hc; cases hc
  | cons c cs ih =>
    obtain ⟨a1, a2, b1, b2, rfl, rfl, hp, hr⟩ := h
    intro x hx
    rcases List.mem_cons.1 hx with rfl | hx
    · simp [hp.1.mem]
    · simp [ih hr x hx]
theorem Sub.node (h : Sub s d a ls js) : ∃ n, s.ns[a]? = some n ∧ n.count = ls.length ∧ n.bytes = sizes ls := by
  cases d with
  | zero => obtain ⟨_, v, h⟩ := h; exact ⟨_, h, rfl, rfl⟩
  | succ d => obtain ⟨u, ks, js', rfl, h, _⟩ := h; exact ⟨_, h, rfl, rfl⟩
theorem Sub.cnt (h : Sub s d a ls js) : s.cnt a = ls.length ∧ s.byt a = sizes ls := by
  obtain ⟨n, hn, h1, h2⟩ := h.node
  simp [St.cnt, St.byt, hn, h1, h2]
theorem All.cnt {ks : List Nat} (h : All (Ok s d) ks ls js) : (ks.map s.cnt).sum = ls.length ∧ (ks.map s.byt).sum = sizes ls := by
  induction ks generalizing ls js with
  | nil => obtain ⟨rfl, rfl⟩ := h; exact ⟨rfl, rfl⟩
  | cons c cs ih =>
    obtain ⟨a1, a2, b1, b2, rfl, rfl, hp, hr⟩ := h
    obtain ⟨e1, e2⟩ := ih hr
    obtain ⟨e3, e4⟩ := hp.1.cnt
    simp [e1, e2, e3, e4, sizes, List.map_append]
theorem Sub.frame (h : Sub s d a ls js) (hs : ∀ x ∈ js, s'.ns[x]? = s.ns[x]?) : Sub s' d a ls js := by
  induction d generalizing a ls js with
  | zero => obtain ⟨rfl, v, h⟩ := h; exact ⟨rfl, v, by rw [hs a (by simp)]; exact h⟩
  | succ d ih =>
    obtain ⟨u, ks, js', rfl, h, hp, hA⟩ := h
    refine ⟨u, ks, js', rfl, by rw [hs a (by simp)]; exact h, hp, hA.mono fun c _ l j hj hc => ?_⟩
    have hj' : ∀ x ∈ j, s'.ns[x]? = s.ns[x]? := fun x hx => hs x (by simp [hj x hx])
    have e : s'.wid c = s.wid c := by simp only [St.wid, hj' c hc.1.mem]
    exact ⟨ih hc.1 hj', by rw [e]; exact hc.2⟩
theorem All.frame {ks : List Nat} (h : All (Ok s d) ks ls js) (hs : ∀ x ∈ js, s'.ns[x]? = s.ns[x]?) : All (Ok s' d) ks ls js :=
  h.mono fun c _ l j hj hc => by
    have hj' : ∀ x ∈ j, s'.ns[x]? = s.ns[x]? := fun x hx => hs x (hj x hx)
    have e : s'.wid c = s.wid c := by simp only [St.wid, hj' c hc.1.mem]
    exact ⟨hc.1.frame hj', by rw [e]; exact hc.2⟩
/-- Each number stands in 'js' or is gone, once. -/
structure Full (s : St) (js : List Nat) : Prop where
  perm : (js ++ s.gone).Perm (List.range s.ns.length)
  nil : ∀ g ∈ s.gone, s.ns[g]? = some nilNode
theorem Full.nodup (h : Full s js) : (js ++ s.gone).Nodup := h.perm.nodup_iff.2 List.nodup_range
theorem Full.lt (h : Full s js) {x : Nat} (hx : x ∈ js) : x < s.ns.length := List.mem_range.1 (h.perm.subset (by simp [hx]))
theorem Full.perm' (h : Full s js) {js2 : List Nat} (hp : js2.Perm js) : Full s js2 := ⟨(hp.append_right _).trans h.perm, h.nil⟩
theorem Full.apart (h : Full s js) {x : Nat} (hx : x ∈ js) : x ∉ s.gone := fun hg => by
  have := List.nodup_append.1 h.nodup
  exact absurd rfl (this.2.2 x hx x hg)
theorem Full.gone_len (h : Full s js) : s.gone.length ≤ s.ns.length := by
  have := h.perm.length_eq; simp at this; omega

theorem SplitTo.sub {at_ k left r : Nat} {na nl : Node} (h : SplitTo s at_ k left na nl r s') (hn : s.ns[left]? = some nl) (hs : Sub s d left ls js) (hnd : js.Nodup) (hat : at_ ∉ js) (hr : r ∉ js) (hw : 8 < s.wid left) :
    ∃ l1 l2 j1 j2, ls = l1 ++ l2 ∧ (j1 ++ j2).Perm (r :: js) ∧ Sub s' d left l1 j1 ∧ Sub s' d r l2 j2 ∧ s'.wid left = s.wid left / 2 ∧ s'.wid r = s.wid left - s.wid left / 2 := by
  have hwl : s.wid left = nl.wid := by simp [St.wid, hn]
  obtain ⟨v, u, hL, hLv, hLu⟩ := h.L
  obtain ⟨v', u', hR, hRv, hRu⟩ := h.R
  cases d with
  | zero =>
    obtain ⟨rfl, v0, h0⟩ := hs
    rw [h0] at hn; injection hn with hn; subst hn
    have e1 := hLu rfl; have e2 := hRu rfl
    subst e1 e2
    refine ⟨ls.take (ls.length / 2), ls.drop (ls.length / 2), [left], [r], (List.take_append_drop _ _).symm, List.Perm.swap _ _ _, ⟨rfl, v, by rw [hL]; simp⟩, ⟨rfl, v', by rw [hR]; simp⟩, ?_, ?_⟩
    · rw [hwl]; simp [St.wid, hL, Node.wid]; omega
    · rw [hwl]; simp [St.wid, hR, Node.wid]
  | succ d =>
    obtain ⟨u0, ks, js', rfl, h0, hp, hA⟩ := hs
    rw [h0] at hn; injection hn with hn; subst hn
    have e1 := hLv rfl; have e2 := hRv rfl
    subst e1 e2
    have hwk : 8 < ks.length := by rw [hwl] at hw; simpa [Node.wid] using hw
    have hA' : All (Ok s d) (ks.take (ks.length / 2) ++ ks.drop (ks.length / 2)) ls js' := by rw [List.take_append_drop]; exact hA
    obtain ⟨l1, l2, j1, j2, rfl, rfl, h1, h2⟩ := hA'.cut
    have hfr : ∀ x ∈ j1 ++ j2, s'.ns[x]? = s.ns[x]? := fun x hx => h.rest x (fun e => hat (by rw [← e]; exact List.mem_cons_of_mem _ hx)) (fun e => (List.nodup_cons.1 hnd).1 (by rw [← e]; exact hx)) (fun e => hr (by rw [← e]; exact List.mem_cons_of_mem _ hx))
    have c1 := h1.cnt; have c2 := h2.cnt
    refine ⟨l1, l2, left :: j1, r :: j2, rfl, List.perm_middle, ⟨u, ks.take (ks.length / 2), j1, rfl, ?_, by simp; omega, h1.frame fun x hx => hfr x (by simp [hx])⟩, ⟨u', ks.drop (ks.length / 2), j2, rfl, ?_, by simp; omega, h2.frame fun x hx => hfr x (by simp [hx])⟩, ?_, ?_⟩
    · rw [hL]; simp only [c1.1, c1.2]; simp [sizes]
    · rw [hR]; simp only [c2.1, c2.2]; simp [sizes]
    · rw [hwl]; simp [St.wid, hL, Node.wid]; omega
    · rw [hwl]; simp [St.wid, hR, Node.wid]
theorem JoinTo.sub {at_ k left right : Nat} {na nl nr : Node} {l1 l2 : List ByteArray} {j1 j2 : List Nat} (h : JoinTo s at_ k left right na nl nr s') (hl : s.ns[left]? = some nl) (hr : s.ns[right]? = some nr) (h1 : Sub s d left l1 j1) (h2 : Sub s d right l2 j2) (hnd : (j1 ++ j2).Nodup) (hat : at_ ∉ j1 ++ j2) :
    ∃ j, (right :: j).Perm (j1 ++ j2) ∧ Sub s' d left (l1 ++ l2) j ∧ s'.wid left = s.wid left + s.wid right := by
  obtain ⟨v, u, hL, hLv, hLu⟩ := h.L
  cases d with
  | zero =>
    obtain ⟨rfl, v0, h0⟩ := h1
    obtain ⟨rfl, v1, h1⟩ := h2
    rw [h0] at hl; injection hl with hl; subst hl
    rw [h1] at hr; injection hr with hr; subst hr
    have e1 := hLu rfl
    subst e1
    refine ⟨[left], List.Perm.swap _ _ _, ⟨rfl, v, by rw [hL]; rfl⟩, ?_⟩
    simp [St.wid, hL, h0, h1, Node.wid]
  | succ d =>
    obtain ⟨u0, ks, i1, rfl, h0, hp, hA⟩ := h1
    obtain ⟨u1, ks', i2, rfl, h1, hp', hA'⟩ := h2
    rw [h0] at hl; injection hl with hl; subst hl
    rw [h1] at hr; injection hr with hr; subst hr
    have e1 := hLv rfl
    subst e1
    have hnd' : (right :: (left :: i1 ++ i2)).Nodup := List.perm_middle.nodup_iff.1 hnd
    have hfr : ∀ x ∈ i1 ++ i2, s'.ns[x]? = s.ns[x]? := fun x hx => by
      simp only [List.cons_append, List.nodup_cons, List.mem_cons] at hnd'
      refine h.rest x (fun e => hat ?_) (fun e => hnd'.2.1 (by rw [← e]; exact hx)) (fun e => hnd'.1 (.inr (by rw [← e]; exact hx)))
      rw [← e]
      rcases List.mem_append.1 hx with hx | hx <;> simp [hx]
    have hAA : All (Ok s d) (ks ++ ks') (l1 ++ l2) (i1 ++ i2) := All.append (P := Ok s d) hA hA'
    have c1 := hAA.cnt
    refine ⟨left :: (i1 ++ i2), (List.perm_middle (l₁ := left :: i1)).symm, ⟨u, ks ++ ks', i1 ++ i2, rfl, ?_, by simp; omega, hAA.frame hfr⟩, ?_⟩
    · rw [hL]; simp only [c1.1, c1.2]; simp [sizes]
    · simp [St.wid, hL, h0, h1, Node.wid]
theorem SplitTo.full {at_ k left r : Nat} {na nl : Node} {rest js' : List Nat} (h : SplitTo s at_ k left na nl r s') (hf : Full s (js ++ rest)) (hat : at_ ∈ rest) (hl : left ∈ js) :
    r ∉ js ++ rest ∧ s'.ns.length ≤ s.ns.length + 1 ∧ s.ns.length ≤ s'.ns.length ∧ (∀ x ∈ rest, x ≠ at_ → s'.ns[x]? = s.ns[x]?) ∧ (js'.Perm (r :: js) → Full s' (js' ++ rest)) := by
  have hnd := hf.nodup
  have hap : ∀ x ∈ js ++ rest, x ∉ s.gone := fun x hx => hf.apart hx
  have hlt : ∀ x ∈ js ++ rest, x < s.ns.length := fun x hx => hf.lt hx
  have hjr : ∀ x ∈ rest, x ∉ js := fun x hx hj => by
    have := List.nodup_append.1 (List.nodup_append.1 hnd).1
    exact absurd rfl (this.2.2 x hj x hx)
  have hr : r ∉ js ++ rest := by
    rcases h.fresh with ⟨e, _⟩ | ⟨_, _, e⟩
    · intro hm; exact hap r hm (by rw [e]; simp)
    · intro hm; have := hlt r hm; omega
  have hfr : ∀ x ∈ rest, x ≠ at_ → s'.ns[x]? = s.ns[x]? := fun x hx hne => h.rest x hne (fun e => hjr x hx (by rw [e]; exact hl)) (fun e => hr (by rw [← e]; simp [hx]))
  refine ⟨hr, ?_, ?_, hfr, fun hp => ⟨?_, fun g hg => ?_⟩⟩
  · rw [h.len]
    rcases h.fresh with ⟨_, e⟩ | ⟨_, _, e⟩
    · have := (List.getElem?_eq_some_iff.1 e).1; omega
    · omega
  · rw [h.len]; omega
  · rcases h.fresh with ⟨e, e2⟩ | ⟨e, e1, e2⟩
    · have hlr := (List.getElem?_eq_some_iff.1 e2).1
      have hle : s'.ns.length = s.ns.length := by rw [h.len]; omega
      rw [hle]
      refine List.Perm.trans ?_ hf.perm
      rw [e]
      refine ((hp.append_right rest).append_right s'.gone).trans ?_
      rw [List.cons_append, List.cons_append, ← List.append_assoc]
      exact List.perm_append_singleton _ _ |>.symm
    · have hle : s'.ns.length = s.ns.length + 1 := by rw [h.len]; omega
      rw [hle, List.range_succ, e1, List.append_nil]
      have hp2 := hf.perm
      rw [e, List.append_nil] at hp2
      refine (hp.append_right rest).trans ?_
      rw [List.cons_append]
      refine (List.perm_append_singleton _ _).symm.trans ?_
      rw [e2]
      exact hp2.append_right _
  · rcases h.fresh with ⟨e, e2⟩ | ⟨e, e1, e2⟩
    · have hgm : g ∈ s.gone := by rw [e]; simp [hg]
      have hgr : g ≠ r := by
        intro e'
        have h1 := (List.nodup_append.1 hnd).2.1
        rw [e] at h1
        exact absurd rfl ((List.nodup_append.1 h1).2.2 r (by rw [← e']; exact hg) r (by simp))
      rw [h.rest g (fun e' => hap at_ (by simp [hat]) (by rw [← e']; exact hgm)) (fun e' => hap left (by simp [hl]) (by rw [← e']; exact hgm)) hgr]
      exact hf.nil g hgm
    · rw [e1] at hg; cases hg
theorem JoinTo.full {at_ k left right : Nat} {na nl nr : Node} {rest js' : List Nat} (h : JoinTo s at_ k left right na nl nr s') (hf : Full s (js ++ rest)) (hat : at_ ∈ rest) (hl : left ∈ js) (hr : right ∈ js) (hp : (right :: js').Perm js) :
    (∀ x ∈ rest, x ≠ at_ → s'.ns[x]? = s.ns[x]?) ∧ Full s' (js' ++ rest) := by
  have hnd := hf.nodup
  have hap : ∀ x ∈ js ++ rest, x ∉ s.gone := fun x hx => hf.apart hx
  have hjr : ∀ x ∈ rest, x ∉ js := fun x hx hj => by
    have := List.nodup_append.1 (List.nodup_append.1 hnd).1
    exact absurd rfl (this.2.2 x hj x hx)
  refine ⟨fun x hx hne => h.rest x hne (fun e => hjr x hx (by rw [e]; exact hl)) (fun e => hjr x hx (by rw [e]; exact hr)), ⟨?_, fun g hg => ?_⟩⟩
  · rw [h.len, h.gone]
    refine List.Perm.trans ?_ hf.perm
    refine List.Perm.trans ?_ ((hp.append_right rest).append_right s.gone)
    rw [List.cons_append, List.cons_append, ← List.append_assoc]
    exact List.perm_append_singleton _ _
  · rw [h.gone] at hg
    rcases List.mem_append.1 hg with hg | hg
    · rw [h.rest g (fun e' => hap at_ (by simp [hat]) (by rw [← e']; exact hg)) (fun e' => hap left (by simp [hl]) (by rw [← e']; exact hg)) (fun e' => hap right (by simp [hr]) (by rw [← e']; exact hg))]
      exact hf.nil g hg
    · simp at hg; rw [hg]; exact h.R
end
end Go.Proofs.YtaefeakmlgjonaaGreat.Tz
/- The call grow. -/
namespace Go.Proofs.YtaefeakmlgjonaaGreat.Tz
set_option maxRecDepth 100000
open Go.ChangeShapes Go.WideShapes Go.ChangeAt Go.RowKit
section
variable {o : Own} {w : World} {t : Nat} {s : St} {vn vg : Value}
/-- Ahead of the split: a new top over the old one. -/
theorem RepX.newTop (h : Rep o w t s vn vg) {r b m cap : Nat} (hr : s.ns[r]? = some nilNode) (hvn : vn = .slice (some ⟨b, 0, none⟩) m cap) :
    ∃ o2, Rep o2 (((w.alloc (.cells #[.int .i64 s.top] 3)).setCell ⟨b, r * 4 + 1, none⟩ (.slice (some ⟨w.heap.size, 0, none⟩) 1 1)).setCell ⟨t, 2, none⟩ (.int .i64 r)) t { s.put r { nilNode with vk := .slice (some ⟨w.heap.size, 0, none⟩) 1 1, kids := [s.top] } with top := r } vn vg ∧
      Keeps o o2 w (((w.alloc (.cells #[.int .i64 s.top] 3)).setCell ⟨b, r * 4 + 1, none⟩ (.slice (some ⟨w.heap.size, 0, none⟩) 1 1)).setCell ⟨t, 2, none⟩ (.int .i64 r)) := by
  have h1 := h.alloc (.cells #[.int .i64 s.top] 3)
  have hown : (w.alloc (.cells #[.int .i64 s.top] 3)).ownsRow w.heap.size 3 1 (.slice (some ⟨w.heap.size, 0, none⟩) 1 1) 1 (nums [s.top]) :=
    ⟨rfl, .inr ⟨w.heap.size, 1, _, rfl, Nat.le_refl _, alloc_new w _, Nat.le_refl _, by simp [maxLen], rfl, rfl⟩⟩
  obtain ⟨o2, r2, x2, hold⟩ := adopt h1 hown (fun k hk => h.free_new hk) (.kids r)
  have x3 := x2.storeK (l := [s.top]) (.inr rfl) hr hvn r2
  have x4 := x3.storeTop r
  have k1 : Keeps o o w (w.alloc (.cells #[.int .i64 s.top] 3)) := (Keeps.refl o w).alloc _
  have k2 : Keeps o o2 w (w.alloc (.cells #[.int .i64 s.top] 3)) := ⟨k1.os, k1.tape, k1.output, k1.size, k1.block, fun k hk hf => by rw [hold k hk]; exact hf⟩
  exact ⟨o2, x4, (k2.setCell (x2.ob hvn)).setCell (by rw [x2.ot]; simp)⟩

/-- What fresh makes of a tree. -/
def FreshTo (s : St) (r : Nat) (s1 : St) : Prop := ((s.gone = s1.gone ++ [r] ∧ s1.ns = s.ns) ∨ (s.gone = [] ∧ s1.gone = [] ∧ r = s.ns.length ∧ s1.ns = s.ns ++ [nilNode])) ∧ s1.top = s.top
/-- The new top ahead of the split. -/
def topOver (s1 : St) (r top : Nat) (v : Value) : St := { s1.put r ⟨.slice none 0 0, v, [], [top], 0, 0⟩ with top := r }
/-- What grow makes of a tree. -/
def GrowTo (s : St) (nt : Node) (s' : St) : Prop := ∃ r s1 v r2 s3 u, FreshTo s r s1 ∧ SplitTo (topOver s1 r s.top v) r 0 s.top ⟨.slice none 0 0, v, [], [s.top], 0, 0⟩ nt r2 s3 ∧ s3.ns[r]? = some ⟨.slice none 0 0, u, [], [s.top, r2], 0, 0⟩ ∧
  s' = s3.put r ⟨.slice none 0 0, u, [], [s.top, r2], s3.cnt s.top + s3.cnt r2, s3.byt s.top + s3.byt r2⟩
theorem sizes_app (l m : List ByteArray) : sizes (l ++ m) = sizes l + sizes m := by simp [sizes]
theorem SplitTo.sums {s s' : St} {at_ k left r : Nat} {na nl : Node} (h : SplitTo s at_ k left na nl r s') : s'.cnt left + s'.cnt r = nl.lines.length + (nl.kids.map s.cnt).sum ∧ s'.byt left + s'.byt r = sizes nl.lines + (nl.kids.map s.byt).sum := by
  obtain ⟨v, u, hL, _⟩ := h.L
  obtain ⟨v', u', hR, _⟩ := h.R
  have e1 : ∀ (f : Nat → Nat) (j : Nat), (nl.kids.map f).sum = ((nl.kids.take j).map f).sum + ((nl.kids.drop j).map f).sum := fun f j => by
    rw [← List.sum_append, ← List.map_append, List.take_append_drop]
  have e2 : sizes nl.lines = sizes (nl.lines.take (nl.lines.length / 2)) + sizes (nl.lines.drop (nl.lines.length / 2)) := by rw [← sizes_app, List.take_append_drop]
  constructor
  · simp only [St.cnt, hL, hR, Option.map_some, Option.getD_some]
    rw [e1 _ (nl.kids.length / 2)]
    have := List.length_take (i := nl.lines.length / 2) (l := nl.lines)
    have := List.length_drop (i := nl.lines.length / 2) (l := nl.lines)
    omega
  · simp only [St.byt, hL, hR, Option.map_some, Option.getD_some]
    rw [e1 _ (nl.kids.length / 2), e2]
    omega
set_option maxHeartbeats 2000000 in
theorem grow_any (h : Rep o w t s vn vg) (hlen : s.ns.length < 360000000) {nt : Node} (hn : s.ns[s.top]? = some nt)
    (hg : ∀ r ∈ s.gone, s.ns[r]? = some nilNode ∧ r ≠ s.top ∧ r ∉ nt.kids) (hnd : s.gone.Nodup)
    (hc1 : nt.kids = [] → nt.vk = .slice none 0 0) (hc2 : nt.lines = [] → nt.vl = .slice none 0 0) (hks : ∀ c ∈ nt.kids, c < s.ns.length ∧ c ≠ s.top)
    (hb1 : nt.lines.length + (nt.kids.map s.cnt).sum < 2 ^ 62) (hb2 : sizes nt.lines + (nt.kids.map s.byt).sum < 2 ^ 62) (hb3 : nt.lines.length < 400000000 ∧ nt.kids.length < 400000000) :
    Calls Tryz.prog 193 #[.pointer (some ⟨t, 0, none⟩)] w fun e w' => e = .returned (.tuple #[]) ∧ ∃ s', GrowTo s nt s' ∧ Did o w t s' w' := by
  have htl := (List.getElem?_eq_some_iff.1 hn).1
  go_enter Tryz.func193, Tryz.ntmps193
  go_wp2_with fail
  refine (fresh_any h (by omega)).mono ?_
  rintro e w1 ⟨r, s1, rfl, ⟨o1, vn1, vg1, h1, K1⟩, hfr, htop1⟩
  have hold : ∀ (j : Nat) n, s.ns[j]? = some n → s1.ns[j]? = some n := by
    intro j n hj
    rcases hfr with ⟨_, e2⟩ | ⟨_, _, _, e2⟩
    · rw [e2]; exact hj
    · rw [e2, List.getElem?_append_left (List.getElem?_eq_some_iff.1 hj).1]; exact hj
  have hr1 : s1.ns[r]? = some nilNode ∧ r ≠ s.top ∧ r ∉ nt.kids := by
    rcases hfr with ⟨e1, e2⟩ | ⟨e1, _, rfl, e2⟩
    · have := hg r (by rw [e1]; simp); rw [e2]; exact this
    · exact ⟨by rw [e2]; simp, by omega, fun hm => by have := (hks _ hm).1; omega⟩
  obtain ⟨hr1, hrt, hrk⟩ := hr1
  have lR : r < s1.ns.length := (List.getElem?_eq_some_iff.1 hr1).1
  have hlen1 : s1.ns.length < 380000000 := by
    rcases hfr with ⟨_, e2⟩ | ⟨_, _, _, e2⟩
    · rw [e2]; omega
    · rw [e2]; simp; omega
  obtain ⟨b, cap, hvn, hob, n1, n2, hcc⟩ := h1.nodeCells (by omega)
  clear hcc
  obtain ⟨a0, c0, c1, c2, c3, cf⟩ := h1.cellsAt hr1 hvn
  have a2 := h1.at2
  have f2 := h1.atF 2
  obtain ⟨o2, h2, K2⟩ := (h1.drew).newTop hr1 hvn
  have S2 : Hid (∀ W : World, W.heap = (((w1.alloc (.cells #[.int .i64 s1.top] 3)).setCell ⟨b, r * 4 + 1, none⟩ (.slice (some ⟨w1.heap.size, 0, none⟩) 1 1)).setCell ⟨t, 2, none⟩ (.int .i64 r)).heap → W.os = w1.os → W.tape = w1.tape → W.output = w1.output →
      Calls Tryz.prog 209 #[.pointer (some ⟨t, 0, none⟩), .int .i64 r, .int .i64 0] W fun e w' => e = .returned (.tuple #[]) ∧ ∃ r2 s3, SplitTo (topOver s1 r s.top (.slice (some ⟨w1.heap.size, 0, none⟩) 1 1)) r 0 s.top ⟨.slice none 0 0, .slice (some ⟨w1.heap.size, 0, none⟩) 1 1, [], [s.top], 0, 0⟩ nt r2 s3 ∧ Did o w t s3 w') := by
    intro W e1 e2 e3 e4
    have hrep : Rep o2 W t (topOver s1 r s.top (.slice (some ⟨w1.heap.size, 0, none⟩) 1 1)) vn1 vg1 := by rw [← htop1]; exact h2.heap e1
    have hkp : Keeps o o2 w W := by
      have := (K1.drew).trans K2
      exact ⟨e2.trans (by have := K1.os; exact this), e3.trans K1.tape, e4.trans K1.output, by rw [e1]; exact this.size, fun j hj hf => by rw [e1]; exact this.block j hj hf, this.own⟩
    have lk : ∀ j, j ≠ r → (topOver s1 r s.top (.slice (some ⟨w1.heap.size, 0, none⟩) 1 1)).ns[j]? = s1.ns[j]? := fun j hj => put_ne _ hj
    have hcn : nt.kids.map (topOver s1 r s.top (.slice (some ⟨w1.heap.size, 0, none⟩) 1 1)).cnt = nt.kids.map s.cnt := List.map_congr_left fun c hc => by
      have := hold c _ (List.getElem?_eq_getElem (hks c hc).1)
      simp only [St.cnt, lk c (fun e => hrk (by rw [← e]; exact hc)), this, List.getElem?_eq_getElem (hks c hc).1]
    have hby : nt.kids.map (topOver s1 r s.top (.slice (some ⟨w1.heap.size, 0, none⟩) 1 1)).byt = nt.kids.map s.byt := List.map_congr_left fun c hc => by
      have := hold c _ (List.getElem?_eq_getElem (hks c hc).1)
      simp only [St.byt, lk c (fun e => hrk (by rw [← e]; exact hc)), this, List.getElem?_eq_getElem (hks c hc).1]
    have hlenT : (topOver s1 r s.top (.slice (some ⟨w1.heap.size, 0, none⟩) 1 1)).ns.length = s1.ns.length := put_len _ _ _
    have hsp := split_any hrep (by rw [hlenT]; omega) (at_ := r) (k := 0) (left := s.top) (na := ⟨.slice none 0 0, .slice (some ⟨w1.heap.size, 0, none⟩) 1 1, [], [s.top], 0, 0⟩) (nl := nt) (put_same _ lR) rfl
      (by rw [lk _ (Ne.symm hrt)]; exact hold _ _ hn) (Ne.symm hrt)
      (by
        intro r' g0 hg0
        have hg1 : s1.gone = g0 ++ [r'] := hg0
        rcases hfr with ⟨e1', _⟩ | ⟨_, e2', _, _⟩
        · have hm : r' ∈ s.gone := by rw [e1', hg1]; simp
          have hne : r' ≠ r := by
            intro e
            rw [e1', hg1, e] at hnd
            have := List.nodup_append.1 hnd
            exact absurd rfl (this.2.2 r (by simp) r (by simp))
          obtain ⟨q1, q2, q3⟩ := hg r' hm
          exact ⟨by rw [lk _ hne]; exact hold _ _ q1, hne, q2, q3⟩
        · rw [e2'] at hg1; simp at hg1)
      hc1 hc2 (fun c hc => ⟨by rw [hlenT]; exact (List.getElem?_eq_some_iff.1 (hold c _ (List.getElem?_eq_getElem (hks c hc).1))).1, (hks c hc).2, fun e => hrk (by rw [← e]; exact hc)⟩)
      (by rw [hcn]; omega) (by rw [hby]; omega) ⟨hb3.1, hb3.2, by simp⟩
    refine Calls.mono (show Calls Tryz.prog 209 #[.pointer (some ⟨t, 0, none⟩), .int .i64 r, .int .i64 0] W _ from hsp) ?_
    rintro e w' ⟨rfl, r2, s3, q1, o3, vn3, vg3, q2, q3⟩
    exact ⟨rfl, r2, s3, q1, o3, vn3, vg3, q2, hkp.trans q3⟩
  have HF : Hid (FreshTo s r s1) := ⟨hfr, htop1⟩
  have S3 : Hid (∀ r2 s3 w3, SplitTo (topOver s1 r s.top (.slice (some ⟨w1.heap.size, 0, none⟩) 1 1)) r 0 s.top ⟨.slice none 0 0, .slice (some ⟨w1.heap.size, 0, none⟩) 1 1, [], [s.top], 0, 0⟩ nt r2 s3 → Did o w t s3 w3 →
      Calls Tryz.prog 208 #[.pointer (some ⟨t, 0, none⟩), .int .i64 r] w3 fun e w' => e = .returned (.tuple #[]) ∧ ∃ s', GrowTo s nt s' ∧ Did o w t s' w') := by
    rintro r2 s3 w3 hS ⟨o3, vn3, vg3, q1, q2⟩
    obtain ⟨u, hA⟩ := hS.A
    have hA' : s3.ns[r]? = some ⟨.slice none 0 0, u, [], [s.top, r2], 0, 0⟩ := hA
    obtain ⟨m1, m2⟩ := hS.sums
    obtain ⟨_, _, hL, _⟩ := hS.L
    obtain ⟨_, _, hR, _⟩ := hS.R
    have hlk : ∀ c ∈ nt.kids, s1.ns[c]? = s.ns[c]? := fun c hc => by rw [hold c _ (List.getElem?_eq_getElem (hks c hc).1), List.getElem?_eq_getElem (hks c hc).1]
    have lk : ∀ c ∈ nt.kids, (topOver s1 r s.top (.slice (some ⟨w1.heap.size, 0, none⟩) 1 1)).ns[c]? = s.ns[c]? := fun c hc => by
      rw [← hlk c hc]; exact put_ne _ (fun e => hrk (by rw [← e]; exact hc))
    have c1 : nt.kids.map (topOver s1 r s.top (.slice (some ⟨w1.heap.size, 0, none⟩) 1 1)).cnt = nt.kids.map s.cnt := List.map_congr_left fun c hc => by simp only [St.cnt, lk c hc]
    have c2 : nt.kids.map (topOver s1 r s.top (.slice (some ⟨w1.heap.size, 0, none⟩) 1 1)).byt = nt.kids.map s.byt := List.map_congr_left fun c hc => by simp only [St.byt, lk c hc]
    rw [c1] at m1; rw [c2] at m2
    have hr2 : r2 ≠ r := by
      rcases hS.fresh with ⟨e1', _⟩ | ⟨e1', _, e2'⟩
      · have hg1 : s1.gone = s3.gone ++ [r2] := e1'
        rcases hfr with ⟨e3, _⟩ | ⟨_, e3, _⟩
        · intro e; rw [e3, hg1, e] at hnd
          have := List.nodup_append.1 hnd
          exact absurd rfl (this.2.2 r (by simp) r (by simp))
        · rw [e3] at hg1; simp at hg1
      · have : (topOver s1 r s.top (.slice (some ⟨w1.heap.size, 0, none⟩) 1 1)).ns.length = s1.ns.length := put_len _ _ _
        omega
    have hw := weigh_any q1 hA' (by
      intro c hc
      simp at hc
      rcases hc with rfl | rfl
      · exact ⟨(List.getElem?_eq_some_iff.1 hL).1, Ne.symm hrt⟩
      · exact ⟨(List.getElem?_eq_some_iff.1 hR).1, hr2⟩) (by simp; omega) (by show sizes [] + _ < _; rw [show sizes [] = 0 from rfl]; simp; omega)
    refine hw.mono ?_
    rintro e w' ⟨rfl, q3, q4⟩
    refine ⟨rfl, _, ⟨r, s1, _, r2, s3, u, ⟨hfr, htop1⟩, hS, hA', rfl⟩, o3, vn3, vg3, ?_, q2.trans q4⟩
    simpa [sizes] using q3
  rw [hvn] at a0
  unfold maxLen at n2
  have c1' : w1.cell? ⟨b, r * 4 + 1, none⟩ = some (.slice none 0 0) := c1
  have htb : ¬ (b = t) := fun e => by rw [e, h1.ot] at hob; cases hob
  have hbl : b < w1.heap.size := h1.lt b (by rw [hob]; simp)
  have htl1 : t < w1.heap.size := h1.tlt
  clear h h1 h2 K1 K2 hfr hold hg hnd hc1 hc2 hks hn hr1 hrk hvn c0 c1 c2 c3 htop1
  go_wp2_with fail
  go_region
  all_goals go_wp2_with fail
  all_goals
    refine (S2.out _ (by rw [World.setCell_alloc_past _ _ _ _ hbl, World.setCell_alloc_past _ _ _ _ (by rw [size_setCell]; exact htl1)]; rfl) (by rfl) (by rfl) (by rfl)).mono ?_
    rintro e w3 ⟨rfl, r2, s3, HS, HD3⟩
    go_wp2_with fail
    refine (S3.out r2 s3 w3 HS HD3).mono ?_
    rintro e w4 ⟨rfl, HF4⟩
    go_wp2_with fail
    go_end0
    exact ⟨rfl, HF4⟩
end
end Go.Proofs.YtaefeakmlgjonaaGreat.Tz
/- The call mend: a kid of the right width, one that is too wide, one that lacks. -/
namespace Go.Proofs.YtaefeakmlgjonaaGreat.Tz
set_option maxRecDepth 100000
open Go.ChangeShapes Go.WideShapes Go.ChangeAt Go.RowKit
section
variable {o : Own} {w : World} {t : Nat} {s : St} {vn vg : Value}
theorem mend_same (h : Rep o w t s vn vg) {at_ k c : Nat} {na nc : Node} (hat : s.ns[at_]? = some na) (hk : na.kids[k]? = some c) (hc : s.ns[c]? = some nc) (hw : 4 ≤ nc.lines.length + nc.kids.length ∧ nc.lines.length + nc.kids.length ≤ 8) :
    Calls Tryz.prog 207 #[.pointer (some ⟨t, 0, none⟩), .int .i64 at_, .int .i64 k] w fun e w' => e = .returned (.tuple #[]) ∧ ∃ q, w' = w.drewN q := by
  have lA : at_ < s.ns.length := (List.getElem?_eq_some_iff.1 hat).1
  obtain ⟨b, cap, hvn, hob, n1, n2, hcc⟩ := h.nodeCells (by omega)
  clear hcc
  obtain ⟨a0, ca0, ca1, ca2, ca3, cf⟩ := h.cellsAt hat hvn
  have hkl := (List.getElem?_eq_some_iff.1 hk).1
  obtain ⟨kb, kc, hvk, hko, hk1, hk2, hkc⟩ := kidsCells h hat (by simp) (by omega)
  have kc0 := (hkc k c hk).1
  rw [hvk] at ca1
  rw [hvn] at a0
  have HW := width_any h hc (by omega)
  unfold maxLen at n2 hk2
  generalize nc.lines.length + nc.kids.length = Wd at *
  have hd1 : decide ((8 : Int) < (Wd : Int)) = false := by simp; omega
  have hd2 : decide ((Wd : Int) < 4) = false := by simp; omega
  clear h hat hk hc hkc hvn hvk ca0 ca2 ca3 cf
  go_enter Tryz.func207, Tryz.ntmps207
  go_wp2_with (go_at_call 192; refine HW.mono ?_; rintro e w1 ⟨rfl, q, rfl⟩)
  go_end0
  exact ⟨rfl, _, rfl⟩
theorem mend_split (h : Rep o w t s vn vg) {at_ k c : Nat} {na nc : Node} (hat : s.ns[at_]? = some na) (hk : na.kids[k]? = some c) (hc : s.ns[c]? = some nc) (hw : 8 < nc.lines.length + nc.kids.length ∧ nc.lines.length + nc.kids.length < 1000000) (Q : World → Prop)
    (HS : ∀ q, Calls Tryz.prog 209 #[.pointer (some ⟨t, 0, none⟩), .int .i64 at_, .int .i64 k] (w.drewN q) fun e w' => e = .returned (.tuple #[]) ∧ Q w') :
    Calls Tryz.prog 207 #[.pointer (some ⟨t, 0, none⟩), .int .i64 at_, .int .i64 k] w fun e w' => e = .returned (.tuple #[]) ∧ Q w' := by
  have lA : at_ < s.ns.length := (List.getElem?_eq_some_iff.1 hat).1
  obtain ⟨b, cap, hvn, hob, n1, n2, hcc⟩ := h.nodeCells (by omega)
  clear hcc
  obtain ⟨a0, ca0, ca1, ca2, ca3, cf⟩ := h.cellsAt hat hvn
  have hkl := (List.getElem?_eq_some_iff.1 hk).1
  obtain ⟨kb, kc, hvk, hko, hk1, hk2, hkc⟩ := kidsCells h hat (by simp) (by omega)
  have kc0 := (hkc k c hk).1
  rw [hvk] at ca1
  rw [hvn] at a0
  have HW := width_any h hc (by omega)
  unfold maxLen at n2 hk2
  generalize nc.lines.length + nc.kids.length = Wd at *
  have hd1 : decide ((8 : Int) < (Wd : Int)) = true := by simp; omega
  have HS' : Hid (∀ q, Calls Tryz.prog 209 #[.pointer (some ⟨t, 0, none⟩), .int .i64 at_, .int .i64 k] (w.drewN q) fun e w' => e = .returned (.tuple #[]) ∧ Q w') := HS
  clear h hat hk hc hkc hvn hvk ca0 ca2 ca3 cf HS
  go_enter Tryz.func207, Tryz.ntmps207
  go_wp2_with (first | (go_at_call 192; refine HW.mono ?_; rintro e w1 ⟨rfl, q, rfl⟩) | (go_at_call 209; refine (HS'.out _).mono ?_; rintro e w2 ⟨rfl, HQ⟩))
  go_end0
  exact ⟨rfl, HQ⟩
theorem mend_join (h : Rep o w t s vn vg) {at_ k m c left : Nat} {na nc : Node} (hat : s.ns[at_]? = some na) (hk : na.kids[k]? = some c) (hc : s.ns[c]? = some nc) (hw : nc.lines.length + nc.kids.length < 4) (hl2 : 2 ≤ na.kids.length) (hm : m = min k (na.kids.length - 2)) (hleft : na.kids[m]? = some left) (Q : World → Prop) (JP : St → Prop)
    (HJ : ∀ q, Calls Tryz.prog 216 #[.pointer (some ⟨t, 0, none⟩), .int .i64 at_, .int .i64 m] (w.drewN q) fun e w' => e = .returned (.tuple #[]) ∧ ∃ s1, JP s1 ∧ Did o w t s1 w')
    (HA : ∀ s1, JP s1 → ∃ u n1, u.ownBlock = na.vk.ownBlock ∧ s1.ns[at_]? = some { na with vk := u, kids := na.kids.take (m + 1) ++ na.kids.drop (m + 2) } ∧ s1.ns[left]? = some n1 ∧ n1.lines.length + n1.kids.length < 1000000)
    (HS : ∀ s1 w1, JP s1 → Did o w t s1 w1 → 8 < s1.wid left → ∀ q, Calls Tryz.prog 209 #[.pointer (some ⟨t, 0, none⟩), .int .i64 at_, .int .i64 m] (w1.drewN q) fun e w' => e = .returned (.tuple #[]) ∧ Q w')
    (HQ : ∀ s1 w1 q, JP s1 → Did o w t s1 w1 → s1.wid left ≤ 8 → Q (w1.drewN q)) :
    Calls Tryz.prog 207 #[.pointer (some ⟨t, 0, none⟩), .int .i64 at_, .int .i64 k] w fun e w' => e = .returned (.tuple #[]) ∧ Q w' := by
  have lA : at_ < s.ns.length := (List.getElem?_eq_some_iff.1 hat).1
  obtain ⟨b, cap, hvn, hob, n1, n2, hcc⟩ := h.nodeCells (by omega)
  clear hcc
  obtain ⟨a0, ca0, ca1, ca2, ca3, cf⟩ := h.cellsAt hat hvn
  have hkl := (List.getElem?_eq_some_iff.1 hk).1
  obtain ⟨kb, kc, hvk, hko, hk1, hk2, hkc⟩ := kidsCells h hat (by simp) (by omega)
  have kc0 := (hkc k c hk).1
  have GV : Hid (na.vk = .slice (some ⟨kb, 0, none⟩) na.kids.length kc) := hvk
  rw [hvk] at ca1
  rw [hvn] at a0
  have HW := width_any h hc (by omega)
  unfold maxLen at n2 hk2
  generalize nc.lines.length + nc.kids.length = Wd at *
  have hd1 : decide ((8 : Int) < (Wd : Int)) = false := by simp; omega
  have hd2 : decide ((Wd : Int) < 4) = true := by simp; omega
  have HS' : Hid (∀ q, Calls Tryz.prog 216 #[.pointer (some ⟨t, 0, none⟩), .int .i64 at_, .int .i64 m] (w.drewN q) fun e w' => e = .returned (.tuple #[]) ∧ ∃ s1, JP s1 ∧ Did o w t s1 w') := HJ
  have HA' : Hid (∀ s1 w1, JP s1 → Did o w t s1 w1 → w1.cell? ⟨kb, m, none⟩ = some (.int .i64 left) ∧ s1.wid left < 1000000 ∧ ∀ q, Calls Tryz.prog 192 #[.pointer (some ⟨t, 0, none⟩), .int .i64 left] (w1.drewN q) fun e w' => e = .returned (.int .i64 (s1.wid left)) ∧ ∃ q', w' = w1.drewN q') := by
    rintro s1 w1 hJP ⟨o1, vn1, vg1, h1, K1⟩
    obtain ⟨u, n1, hu, hA1, hL1, hlt1⟩ := HA s1 hJP
    have hmk : (na.kids.take (m + 1) ++ na.kids.drop (m + 2))[m]? = some left := by
      have := (List.getElem?_eq_some_iff.1 hleft).1
      rw [List.getElem?_append_left (by simp; omega), List.getElem?_take_of_lt (by omega)]; exact hleft
    obtain ⟨kb', kc', hvk', _, _, _, hkc'⟩ := kidsCells h1 hA1 (by simp) (by simp; omega)
    have hkb : kb' = kb := by
      have e1 : u = .slice (some ⟨kb', 0, none⟩) _ kc' := hvk'
      rw [GV.out, e1] at hu; simpa [Value.ownBlock] using hu
    subst hkb
    have hwd : s1.wid left = n1.lines.length + n1.kids.length := by simp [St.wid, hL1, Node.wid]
    refine ⟨(hkc' m left hmk).1, by omega, fun q => ?_⟩
    refine (width_any (h1.drewN q) hL1 (by omega)).mono ?_
    rintro e w' ⟨rfl, q', rfl⟩
    exact ⟨by rw [hwd], _, drew2 _ _ _⟩
  have HSS : Hid (∀ s1 w1, JP s1 → Did o w t s1 w1 → 8 < s1.wid left → ∀ q, Calls Tryz.prog 209 #[.pointer (some ⟨t, 0, none⟩), .int .i64 at_, .int .i64 m] (w1.drewN q) fun e w' => e = .returned (.tuple #[]) ∧ Q w') := HS
  have HQ' : Hid (∀ s1 w1 q, JP s1 → Did o w t s1 w1 → s1.wid left ≤ 8 → Q (w1.drewN q)) := HQ
  have hmi : min (k : Int) ((na.kids.length : Int) - 2) = (m : Int) := by omega
  have hmK : m < na.kids.length := by omega
  clear h hat hk hc hkc hvn hvk ca0 ca2 ca3 cf HJ HA HS HQ hleft hm
  generalize na.kids.length = K at *
  go_enter Tryz.func207, Tryz.ntmps207
  go_wp2_with (go_at_call 192; refine HW.mono ?_; rintro e w1 ⟨rfl, q, rfl⟩)
  refine (HS'.out _).mono ?_
  rintro e w2 ⟨rfl, s1, hJP, HD⟩
  obtain ⟨hcell, hlt, HW2⟩ := HA'.out s1 w2 hJP HD
  have HJ2 : Hid (JP s1) := hJP
  have HW3 := HW2 0
  simp only [World.drewN] at HW3
  clear hJP HW HW2
  by_cases h8 : 8 < s1.wid left
  · have HX := HSS.out s1 w2 HJ2.out HD h8
    have HX' : Hid (∀ q, Calls Tryz.prog 209 #[.pointer (some ⟨t, 0, none⟩), .int .i64 at_, .int .i64 m] (w2.drewN q) fun e w' => e = .returned (.tuple #[]) ∧ Q w') := HX
    clear HX HD
    generalize s1.wid left = Wj at *
    have hd3 : decide ((8 : Int) < (Wj : Int)) = true := by simp; omega
    go_wp2_with (first | (go_at_call 192; refine HW3.mono ?_; rintro e w1 ⟨rfl, q, rfl⟩) | (go_at_call 209; refine (HX'.out _).mono ?_; rintro e w3 ⟨rfl, HQ3⟩))
    go_end0
    exact ⟨rfl, HQ3⟩
  · have HX' : Hid (∀ q, Q (w2.drewN q)) := fun q => HQ'.out s1 w2 q HJ2.out HD (by omega)
    clear HD
    generalize s1.wid left = Wj at *
    have hd3 : decide ((8 : Int) < (Wj : Int)) = false := by simp; omega
    go_wp2_with (go_at_call 192; refine HW3.mono ?_; rintro e w1 ⟨rfl, q, rfl⟩)
    go_end0
    exact ⟨rfl, HX'.out _⟩
end
end Go.Proofs.YtaefeakmlgjonaaGreat.Tz
/- The call mend, of a tree. -/
namespace Go.Proofs.YtaefeakmlgjonaaGreat.Tz
set_option maxRecDepth 100000
open Go.ChangeShapes Go.WideShapes Go.ChangeAt Go.RowKit
section
variable {o : Own} {w : World} {t : Nat} {s s' s1 : St} {vn vg : Value} {d a : Nat} {ls : List ByteArray} {js : List Nat}
structure Parts (s : St) (d a : Nat) (ls : List ByteArray) (js : List Nat) (n : Node) : Prop where
  node : s.ns[a]? = some n
  wid : s.wid a = n.lines.length + n.kids.length
  cnt : n.lines.length + (n.kids.map s.cnt).sum = ls.length
  byt : sizes n.lines + (n.kids.map s.byt).sum = sizes ls
  mem : ∀ x ∈ n.kids, x ∈ js
  ne : js.Nodup → ∀ x ∈ n.kids, x ≠ a
  leaf : d = 0 → n.kids = [] ∧ n.vk = .slice none 0 0
  inner : 0 < d → n.lines = [] ∧ n.vl = .slice none 0 0 ∧ 0 < n.kids.length
theorem Sub.parts (h : Sub s d a ls js) : ∃ n, Parts s d a ls js n := by
  cases d with
  | zero =>
    obtain ⟨rfl, v, h⟩ := h
    exact ⟨_, h, by simp [St.wid, h, Node.wid], rfl, by simp, fun x hx => (by cases hx), fun _ x hx => (by cases hx), fun _ => ⟨rfl, rfl⟩, fun hd => absurd hd (by omega)⟩
  | succ d =>
    obtain ⟨u, ks, js', rfl, h, hp, hA⟩ := h
    have hA' : All (Ok s d) ks ls js' := hA
    have hc := hA'.cnt
    refine ⟨_, h, by simp [St.wid, h, Node.wid], ?_, ?_, fun x hx => by simp [hA'.mem x hx], fun hnd x hx e => ?_, fun hd => absurd hd (by omega), fun _ => ⟨rfl, rfl, hp⟩⟩
    · show 0 + _ = _; rw [hc.1]; omega
    · show sizes [] + _ = _; rw [hc.2, show sizes [] = 0 from rfl]; omega
    · rw [e] at hx; exact (List.nodup_cons.1 hnd).1 (hA'.mem a hx)
theorem Full.ne {x y : Nat} {xs ys : List Nat} (h : Full s (xs ++ ys)) (hx : x ∈ xs) (hy : y ∈ ys) : x ≠ y := by
  have := List.nodup_append.1 (List.nodup_append.1 h.nodup).1
  exact this.2.2 x hx y hy
theorem Full.left {xs ys : List Nat} (h : Full s (xs ++ ys)) : xs.Nodup := (List.nodup_append.1 (List.nodup_append.1 h.nodup).1).1
/-- The call split, of a sub-tree. -/
theorem split_sub (h : Rep o w t s vn vg) (hlen : s.ns.length < 360000000) {at_ k c : Nat} {na : Node} {lc : List ByteArray} {jc rest : List Nat} (hat : s.ns[at_]? = some na) (hk : na.kids[k]? = some c) (hC : Sub s d c lc jc) (hf : Full s (jc ++ rest)) (hr : at_ ∈ rest) (hw : 8 < s.wid c ∧ s.wid c < 1000) (hna : na.kids.length < 1000) (hb1 : lc.length < 2 ^ 62) (hb2 : sizes lc < 2 ^ 62) :
    Calls Tryz.prog 209 #[.pointer (some ⟨t, 0, none⟩), .int .i64 at_, .int .i64 k] w fun e w' => e = .returned (.tuple #[]) ∧ ∃ nc r s', s.ns[c]? = some nc ∧ SplitTo s at_ k c na nc r s' ∧ Did o w t s' w' := by
  obtain ⟨nc, P⟩ := hC.parts
  have hcm := hC.mem
  have hwd := P.wid
  have hsp := split_any h (by omega) hat hk P.node (hf.ne hcm hr) (by
    intro r g0 hg
    have hm : r ∈ s.gone := by rw [hg]; simp
    exact ⟨hf.nil r hm, fun e => hf.apart (x := at_) (by simp [hr]) (by rw [← e]; exact hm), fun e => hf.apart (x := c) (by simp [hcm]) (by rw [← e]; exact hm), fun hk => hf.apart (x := r) (by simp [P.mem r hk]) hm⟩)
    (fun e => by
      rcases Nat.eq_zero_or_pos d with hd | hd
      · exact (P.leaf hd).2
      · have := (P.inner hd).2.2; rw [e] at this; simp at this)
    (fun e => by
      rcases Nat.eq_zero_or_pos d with hd | hd
      · have := (P.leaf hd).1; rw [this, e] at hwd; simp at hwd; omega
      · exact (P.inner hd).2.1)
    (fun x hx => ⟨hf.lt (by simp [P.mem x hx]), P.ne hf.left x hx, hf.ne (P.mem x hx) hr⟩)
    (by rw [P.cnt]; omega) (by rw [P.byt]; omega) (by omega)
  refine hsp.mono ?_
  rintro e w' ⟨rfl, r, s', h1, h2⟩
  exact ⟨rfl, nc, r, s', P.node, h1, h2⟩
/-- The call join, of two sub-trees. -/
theorem join_sub (h : Rep o w t s vn vg) (hlen : s.ns.length < 360000000) {at_ k left right : Nat} {na : Node} {l1 l2 : List ByteArray} {j1 j2 rest : List Nat} (hat : s.ns[at_]? = some na) (hk : na.kids[k]? = some left) (hk' : na.kids[k + 1]? = some right) (h1 : Sub s d left l1 j1) (h2 : Sub s d right l2 j2) (hf : Full s ((j1 ++ j2) ++ rest)) (hr : at_ ∈ rest)
    (hw : s.wid left < 1000 ∧ 0 < s.wid right ∧ s.wid right < 1000) (hna : na.kids.length < 1000) (hb1 : (l1 ++ l2).length < 2 ^ 62) (hb2 : sizes (l1 ++ l2) < 2 ^ 62) :
    Calls Tryz.prog 216 #[.pointer (some ⟨t, 0, none⟩), .int .i64 at_, .int .i64 k] w fun e w' => e = .returned (.tuple #[]) ∧ ∃ s', (∃ nl nr, s.ns[left]? = some nl ∧ s.ns[right]? = some nr ∧ JoinTo s at_ k left right na nl nr s') ∧ Did o w t s' w' := by
  obtain ⟨nl, P⟩ := h1.parts
  obtain ⟨nr, R⟩ := h2.parts
  have hgl := hf.gone_len
  have wl := P.wid
  have wr := R.wid
  have n1 : left ≠ at_ := hf.ne (by simp [h1.mem]) hr
  have n2 : right ≠ at_ := hf.ne (by simp [h2.mem]) hr
  have hnd := List.nodup_append.1 hf.left
  have n3 : right ≠ left := fun e => hnd.2.2 left h1.mem right h2.mem e.symm
  rw [sizes_app] at hb2
  rw [List.length_append] at hb1
  rcases Nat.eq_zero_or_pos d with hd | hd
  · obtain ⟨a1, a2⟩ := P.leaf hd
    obtain ⟨b1, b2⟩ := R.leaf hd
    rw [a1] at wl; rw [b1] at wr
    simp at wl wr
    have e1 := P.byt; have e2 := R.byt
    rw [a1] at e1; rw [b1] at e2
    simp at e1 e2
    refine (join_leaf h hat hk hk' P.node R.node n1 n2 n3 a2 b2 a1 b1 (by omega) (by rw [sizes_app]; omega) (by omega)).mono ?_
    rintro e w' ⟨rfl, s', q1, q2⟩
    exact ⟨rfl, s', ⟨nl, nr, P.node, R.node, q1⟩, q2⟩
  · obtain ⟨a1, a2, a3⟩ := P.inner hd
    obtain ⟨b1, b2, b3⟩ := R.inner hd
    rw [a1] at wl; rw [b1] at wr
    simp at wl wr
    have e1 := P.byt; have e2 := R.byt
    have e3 := P.cnt; have e4 := R.cnt
    have z : sizes [] = 0 := rfl
    rw [a1, z] at e1; rw [b1, z] at e2
    rw [a1] at e3; rw [b1] at e4
    simp at e1 e2 e3 e4
    refine (join_inner h hat hk hk' P.node R.node n1 n2 n3 a2 b2 a1 b1 b3 (fun x hx => ?_) (by simp; omega) (by simp; omega) (by omega)).mono ?_
    · have hx' : x ∈ j1 ++ j2 := by
        rcases List.mem_append.1 hx with hx | hx
        · simp [P.mem x hx]
        · simp [R.mem x hx]
      refine ⟨hf.lt (List.mem_append_left _ hx'), ?_, ?_, hf.ne hx' hr⟩
      · rcases List.mem_append.1 hx with hx | hx
        · exact P.ne hnd.1 x hx
        · exact fun e => hnd.2.2 left h1.mem x (R.mem x hx) e.symm
      · rcases List.mem_append.1 hx with hx | hx
        · exact hnd.2.2 x (P.mem x hx) right h2.mem
        · exact R.ne hnd.2.1 x hx
    rintro e w' ⟨rfl, s', q1, q2⟩
    exact ⟨rfl, s', ⟨nl, nr, P.node, R.node, q1⟩, q2⟩

/-- The node's kids are 'm' now, all of the right width, and hold the lines 'ls'. -/
def Mended (s : St) (d at_ : Nat) (na : Node) (ls : List ByteArray) (rest : List Nat) (m : Nat) (s' : St) : Prop :=
  ∃ ks' js' u, s'.ns[at_]? = some { na with vk := u, kids := ks' } ∧ All (Ok s' d) ks' ls js' ∧ Full s' (js' ++ at_ :: rest) ∧ (∀ x ∈ rest, s'.ns[x]? = s.ns[x]?) ∧ ks'.length = m ∧ s'.ns.length ≤ s.ns.length + 1 ∧ s.ns.length ≤ s'.ns.length ∧ s'.top = s.top
theorem mid_split {at_ c r : Nat} {na nc : Node} {xs ys jx jc jy rest : List Nat} {lx lc ly : List ByteArray} (hS : SplitTo s at_ xs.length c na nc r s') (hn : s.ns[c]? = some nc) (hks : na.kids = xs ++ c :: ys) (hX : All (Ok s d) xs lx jx) (hC : Sub s d c lc jc) (hY : All (Ok s d) ys ly jy)
    (hw : 8 < s.wid c ∧ s.wid c ≤ 16) (hf : Full s ((jx ++ (jc ++ jy)) ++ (at_ :: rest))) : Mended s d at_ na (lx ++ (lc ++ ly)) rest (na.kids.length + 1) s' := by
  have hf2 : Full s (jc ++ (jx ++ jy ++ at_ :: rest)) := hf.perm' (by
    rw [← List.append_assoc, ← List.append_assoc]
    refine List.Perm.append_right _ ?_
    rw [← List.append_assoc]
    exact List.Perm.append_right _ List.perm_append_comm)
  have hjs := hf2.left
  obtain ⟨r1, r2, r3, r4, r5⟩ := hS.full (js' := []) hf2 (by simp) hC.mem
  obtain ⟨l1, l2, j1, j2, rfl, hp, s1, s2, w1, w2⟩ := hS.sub hn hC hjs (fun hm => hf2.ne hm (by simp) rfl) (fun hm => r1 (by simp [hm])) hw.1
  obtain ⟨_, _, _, _, r6⟩ := hS.full (js' := j1 ++ j2) hf2 (by simp) hC.mem
  obtain ⟨u, hA⟩ := hS.A
  have hat1 : ∀ x ∈ jx ++ jy, x ≠ at_ := fun x hx => hf.ne (by rcases List.mem_append.1 hx with h | h <;> simp [h]) (by simp)
  have hrn : ∀ x ∈ rest, x ≠ at_ := fun x hx e => by
    have := (List.nodup_append.1 (List.nodup_append.1 hf.nodup).1).2.1
    exact (List.nodup_cons.1 this).1 (by rw [← e]; exact hx)
  refine ⟨xs ++ [c, r] ++ ys, jx ++ (j1 ++ j2) ++ jy, u, ?_, ?_, ?_, fun x hx => r4 x (by simp [hx]) (hrn x hx), ?_, r2, r3, hS.top⟩
  · rw [hA, hks]
    have e' : List.take (xs.length + 1) (xs ++ c :: ys) = xs ++ [c] := by
      rw [show xs ++ c :: ys = (xs ++ [c]) ++ ys by simp, show xs.length + 1 = (xs ++ [c]).length by simp, List.take_left]
    rw [e']; simp
  · have e : lx ++ (l1 ++ l2 ++ ly) = lx ++ (l1 ++ l2) ++ ly := by simp
    rw [e]
    refine ((hX.frame fun x hx => r4 x (by simp [hx]) (hat1 x (by simp [hx]))).append (All.two ⟨s1, ?_⟩ ⟨s2, ?_⟩)).append (hY.frame fun x hx => r4 x (by simp [hx]) (hat1 x (by simp [hx])))
    · rw [w1]; omega
    · rw [w2]; omega
  · refine (r6 hp).perm' ?_
    rw [← List.append_assoc (j1 ++ j2) (jx ++ jy)]
    refine List.Perm.append_right _ ?_
    rw [← List.append_assoc (j1 ++ j2) jx jy]
    exact List.Perm.append_right _ List.perm_append_comm
  · rw [hks]; simp; omega
theorem mid_join {at_ left right : Nat} {na nl nr : Node} {xs ys jx j1 j2 jy rest : List Nat} {lx l1 l2 ly : List ByteArray} (hS : JoinTo s at_ xs.length left right na nl nr s') (hn : s.ns[left]? = some nl) (hn' : s.ns[right]? = some nr) (hks : na.kids = xs ++ left :: right :: ys) (hX : All (Ok s d) xs lx jx) (h1 : Sub s d left l1 j1) (h2 : Sub s d right l2 j2) (hY : All (Ok s d) ys ly jy)
    (hf : Full s ((jx ++ ((j1 ++ j2) ++ jy)) ++ (at_ :: rest))) : ∃ u j, s'.ns[at_]? = some { na with vk := u, kids := xs ++ left :: ys } ∧ All (Ok s' d) xs lx jx ∧ Sub s' d left (l1 ++ l2) j ∧ s'.wid left = s.wid left + s.wid right ∧ All (Ok s' d) ys ly jy ∧
      Full s' ((jx ++ (j ++ jy)) ++ (at_ :: rest)) ∧ (∀ x ∈ rest, s'.ns[x]? = s.ns[x]?) ∧ s'.ns.length = s.ns.length ∧ s'.top = s.top := by
  have hf2 : Full s ((j1 ++ j2) ++ (jx ++ jy ++ at_ :: rest)) := hf.perm' (by
    rw [← List.append_assoc, ← List.append_assoc]
    refine List.Perm.append_right _ ?_
    rw [← List.append_assoc]
    exact List.Perm.append_right _ List.perm_append_comm)
  obtain ⟨j, hp, hs, hw⟩ := hS.sub hn hn' h1 h2 hf2.left (fun hm => hf2.ne hm (by simp) rfl)
  obtain ⟨r4, r6⟩ := hS.full hf2 (by simp) (by simp [h1.mem]) (by simp [h2.mem]) hp
  obtain ⟨u, _, hA⟩ := hS.A
  have hat1 : ∀ x ∈ jx ++ jy, x ≠ at_ := fun x hx => hf.ne (by rcases List.mem_append.1 hx with h | h <;> simp [h]) (by simp)
  have hrn : ∀ x ∈ rest, x ≠ at_ := fun x hx e => by
    have := (List.nodup_append.1 (List.nodup_append.1 hf.nodup).1).2.1
    exact (List.nodup_cons.1 this).1 (by rw [← e]; exact hx)
  refine ⟨u, j, ?_, hX.frame fun x hx => r4 x (by simp [hx]) (hat1 x (by simp [hx])), hs, hw, hY.frame fun x hx => r4 x (by simp [hx]) (hat1 x (by simp [hx])), ?_, fun x hx => r4 x (by simp [hx]) (hrn x hx), hS.len, hS.top⟩
  · rw [hA, hks]
    have e : List.drop (xs.length + 2) (xs ++ left :: right :: ys) = ys := by
      rw [show xs ++ left :: right :: ys = (xs ++ [left, right]) ++ ys by simp, show xs.length + 2 = (xs ++ [left, right]).length by simp, List.drop_left]
    have e' : List.take (xs.length + 1) (xs ++ left :: right :: ys) = xs ++ [left] := by
      rw [show xs ++ left :: right :: ys = (xs ++ [left]) ++ (right :: ys) by simp, show xs.length + 1 = (xs ++ [left]).length by simp, List.take_left]
    rw [e, e']; simp
  · refine r6.perm' ?_
    rw [← List.append_assoc, ← List.append_assoc]
    refine List.Perm.append_right _ ?_
    rw [← List.append_assoc]
    exact List.Perm.append_right _ List.perm_append_comm

theorem Mended.trans {at_ m : Nat} {na : Node} {rest : List Nat} {u : Value} {ks : List Nat} (h : Mended s1 d at_ { na with vk := u, kids := ks } ls rest m s') (hr : ∀ x ∈ rest, s1.ns[x]? = s.ns[x]?) (hl : s1.ns.length = s.ns.length) (ht : s1.top = s.top) : Mended s d at_ na ls rest m s' := by
  obtain ⟨ks', js', u', h1, h2, h3, h4, h5, h6, h7, h8⟩ := h
  exact ⟨ks', js', u', h1, h2, h3, fun x hx => (h4 x hx).trans (hr x hx), h5, by omega, by omega, h8.trans ht⟩
/-- Behind a join the kid is of the right width, or is split. -/
theorem mend_two (h : Rep o w t s vn vg) (hlen : s.ns.length < 320000000) {at_ k c left right : Nat} {na nc : Node} {xs ys jx j1 j2 jy rest : List Nat} {lx l1 l2 ly : List ByteArray} (hat : s.ns[at_]? = some na) (hkc : na.kids[k]? = some c) (hnc : s.ns[c]? = some nc) (hwc : s.wid c < 4) (hk8 : na.kids.length ≤ 8)
    (hks : na.kids = xs ++ left :: right :: ys) (hm : xs.length = min k (na.kids.length - 2)) (hX : All (Ok s d) xs lx jx) (h1 : Sub s d left l1 j1) (h2 : Sub s d right l2 j2) (hY : All (Ok s d) ys ly jy) (hw : 7 ≤ s.wid left + s.wid right ∧ s.wid left ≤ 8 ∧ s.wid right ≤ 8 ∧ 0 < s.wid right)
    (hf : Full s ((jx ++ ((j1 ++ j2) ++ jy)) ++ (at_ :: rest))) (hb1 : (l1 ++ l2).length < 2 ^ 62) (hb2 : sizes (l1 ++ l2) < 2 ^ 62) :
    Calls Tryz.prog 207 #[.pointer (some ⟨t, 0, none⟩), .int .i64 at_, .int .i64 k] w fun e w' => e = .returned (.tuple #[]) ∧ ∃ s' m, Did o w t s' w' ∧ Mended s d at_ na (lx ++ ((l1 ++ l2) ++ ly)) rest m s' ∧ m ≤ na.kids.length ∧ na.kids.length ≤ m + 1 := by
  have hkm : na.kids[xs.length]? = some left := by rw [hks]; simp
  have hkm' : na.kids[xs.length + 1]? = some right := by
    rw [hks, List.getElem?_append_right (by omega)]; simp
  have hf2 : Full s ((j1 ++ j2) ++ (jx ++ jy ++ at_ :: rest)) := hf.perm' (by
    rw [← List.append_assoc, ← List.append_assoc]
    refine List.Perm.append_right _ ?_
    rw [← List.append_assoc]
    exact List.Perm.append_right _ List.perm_append_comm)
  have hwc' : nc.lines.length + nc.kids.length < 4 := by have : s.wid c = nc.lines.length + nc.kids.length := by simp [St.wid, hnc, Node.wid]
                                                         omega
  have hl2 : 2 ≤ na.kids.length := by rw [hks]; simp; omega
  have hbr : ∀ s1, (∃ nl nr, s.ns[left]? = some nl ∧ s.ns[right]? = some nr ∧ JoinTo s at_ xs.length left right na nl nr s1) → _ := fun s1 ⟨nl, nr, q1, q2, q3⟩ => mid_join q3 q1 q2 hks hX h1 h2 hY hf
  refine mend_join h hat hkc hnc hwc' hl2 hm hkm _ (fun s1 => ∃ nl nr, s.ns[left]? = some nl ∧ s.ns[right]? = some nr ∧ JoinTo s at_ xs.length left right na nl nr s1) (fun q => ?_) (fun s1 hJ => ?_) (fun s1 w1 hJ hD h8 q => ?_) (fun s1 w1 q hJ hD h8 => ?_)
  · refine (join_sub (h.drewN q) (by omega) hat hkm hkm' h1 h2 hf2 (by simp) (by omega) (by omega) hb1 hb2).mono ?_
    rintro e w' ⟨rfl, s1, q1, o1, vn1, vg1, q2, q3⟩
    exact ⟨rfl, s1, q1, o1, vn1, vg1, q2, (Keeps.drewN o w q).trans q3⟩
  · obtain ⟨u, j, e1, _, e3, e4, _⟩ := hbr s1 hJ
    obtain ⟨nl, nr, q1, q2, q3⟩ := hJ
    obtain ⟨u', hu, hA⟩ := q3.A
    obtain ⟨n1, P⟩ := e3.parts
    have := P.wid
    exact ⟨u', n1, hu, hA, P.node, by omega⟩
  · obtain ⟨u, j, e1, e2, e3, e4, e5, e6, e7, e8, e9⟩ := hbr s1 hJ
    obtain ⟨o1, vn1, vg1, r1, k1⟩ := hD
    have hf3 : Full s1 (j ++ (jx ++ jy ++ at_ :: rest)) := e6.perm' (by
      rw [← List.append_assoc, ← List.append_assoc]
      refine List.Perm.append_right _ ?_
      rw [← List.append_assoc]
      exact List.Perm.append_right _ List.perm_append_comm)
    refine (split_sub (r1.drewN q) (by omega) e1 (c := left) (by simp) e3 hf3 (by simp) (by omega) (by rw [hks] at hk8; simp at hk8 ⊢; omega) hb1 hb2).mono ?_
    rintro e w' ⟨rfl, nc1, r, s2, q1, q2, o2, vn2, vg2, q3, q4⟩
    have hM := mid_split q2 q1 rfl e2 e3 e5 (by omega) e6
    refine ⟨rfl, s2, _, ⟨o2, vn2, vg2, q3, (k1.drewN' q).trans q4⟩, hM.trans e7 e8 e9, ?_, ?_⟩
    · rw [hks]; simp; omega
    · rw [hks]; simp; omega
  · obtain ⟨u, j, e1, e2, e3, e4, e5, e6, e7, e8, e9⟩ := hbr s1 hJ
    obtain ⟨o1, vn1, vg1, r1, k1⟩ := hD
    refine ⟨s1, _, ⟨o1, vn1, vg1, r1.drewN q, k1.drewN' q⟩, ⟨xs ++ left :: ys, jx ++ (j ++ jy), u, e1, ?_, e6, e7, rfl, by omega, by omega, e9⟩, ?_, ?_⟩
    · exact e2.append ((All.one ⟨e3, by omega⟩).append e5)
    · rw [hks]; simp
    · rw [hks]; simp; omega
theorem mend_any (h : Rep o w t s vn vg) (hlen : s.ns.length < 320000000) {at_ c : Nat} {na : Node} {xs ys jx jc jy rest : List Nat} {lx lc ly : List ByteArray} (hat : s.ns[at_]? = some na) (hk8 : na.kids.length ≤ 8) (hk2 : 2 ≤ na.kids.length)
    (hks : na.kids = xs ++ c :: ys) (hX : All (Ok s d) xs lx jx) (hC : Sub s d c lc jc) (hY : All (Ok s d) ys ly jy) (hw : 3 ≤ s.wid c ∧ s.wid c ≤ 9)
    (hf : Full s ((jx ++ (jc ++ jy)) ++ (at_ :: rest))) (hb1 : (lx ++ (lc ++ ly)).length < 2 ^ 62) (hb2 : sizes (lx ++ (lc ++ ly)) < 2 ^ 62) :
    Calls Tryz.prog 207 #[.pointer (some ⟨t, 0, none⟩), .int .i64 at_, .int .i64 xs.length] w fun e w' => e = .returned (.tuple #[]) ∧ ∃ s' m, Did o w t s' w' ∧ Mended s d at_ na (lx ++ (lc ++ ly)) rest m s' ∧ m ≤ na.kids.length + 1 ∧ na.kids.length ≤ m + 1 := by
  have hkm : na.kids[xs.length]? = some c := by rw [hks]; simp
  obtain ⟨nc, P⟩ := hC.parts
  have hwd := P.wid
  simp only [sizes_app, List.length_append] at hb1 hb2
  by_cases h8 : 8 < s.wid c
  · have hf2 : Full s (jc ++ (jx ++ jy ++ at_ :: rest)) := hf.perm' (by
      rw [← List.append_assoc, ← List.append_assoc]
      refine List.Perm.append_right _ ?_
      rw [← List.append_assoc]
      exact List.Perm.append_right _ List.perm_append_comm)
    refine mend_split h hat hkm P.node (by omega) _ fun q => ?_
    refine (split_sub (h.drewN q) (by omega) hat hkm hC hf2 (by simp) (by omega) (by omega) (by omega) (by omega)).mono ?_
    rintro e w' ⟨rfl, nc1, r, s2, q1, q2, o2, vn2, vg2, q3, q4⟩
    have hM := mid_split q2 q1 hks hX hC hY (by omega) hf
    exact ⟨rfl, s2, _, ⟨o2, vn2, vg2, q3, (Keeps.drewN o w q).trans q4⟩, hM, by omega, by omega⟩
  · by_cases h4 : s.wid c < 4
    · cases ys with
      | cons y ys =>
        obtain ⟨l2, l3, j2, j3, rfl, rfl, hy, hY⟩ := hY
        have hres := mend_two h hlen (k := xs.length) (c := c) hat hkm P.node h4 hk8 (left := c) (right := y) hks (by rw [hks]; simp; omega) hX hC hy.1 hY (by have := hy.2; omega) (by simpa using hf) (by simp [List.length_append] at hb1 ⊢; omega) (by simp only [sizes_app] at hb2 ⊢; omega)
        refine hres.mono ?_
        rintro e w' ⟨rfl, s', m, q1, q2, q3, q4⟩
        exact ⟨rfl, s', m, q1, by simpa using q2, by omega, q4⟩
      | nil =>
        obtain ⟨rfl, rfl⟩ := hY
        obtain ⟨xs', x, rfl⟩ : ∃ xs' x, xs = xs' ++ [x] := by
          have : xs ≠ [] := by rintro rfl; rw [hks] at hk2; simp at hk2
          exact ⟨xs.dropLast, xs.getLast this, (List.dropLast_concat_getLast this).symm⟩
        obtain ⟨l1, l2, j1, j2, rfl, rfl, hX1, hx⟩ := hX.cut
        have hx := hx.head
        have hres := mend_two h hlen (k := (xs' ++ [x]).length) (c := c) hat hkm P.node h4 hk8 (left := x) (right := c) (xs := xs') (ys := []) (by rw [hks]; simp) (by rw [hks]; simp) hX1 hx.1 hC ⟨rfl, rfl⟩ (by have := hx.2; omega) (by simpa using hf) (by simp [List.length_append] at hb1 ⊢; omega) (by simp only [sizes_app] at hb2 ⊢; omega)
        refine hres.mono ?_
        rintro e w' ⟨rfl, s', m, q1, q2, q3, q4⟩
        exact ⟨rfl, s', m, q1, by simpa using q2, by omega, q4⟩
    · refine (mend_same h hat hkm P.node (by omega)).mono ?_
      rintro e w' ⟨rfl, q, rfl⟩
      refine ⟨rfl, s, _, ⟨o, vn, vg, h.drewN q, Keeps.drewN o w q⟩, ⟨xs ++ c :: ys, jx ++ (jc ++ jy), na.vk, ?_, hX.append ((All.one ⟨hC, by omega⟩).append hY), hf, fun _ _ => rfl, rfl, by omega, by omega, rfl⟩, by rw [hks]; omega, by rw [hks]; omega⟩
      rw [hat, ← hks]
end
end Go.Proofs.YtaefeakmlgjonaaGreat.Tz
/- The call changeIn at an inner node; the call change. -/
namespace Go.Proofs.YtaefeakmlgjonaaGreat.Tz
set_option maxRecDepth 100000
open Go.ChangeShapes Go.WideShapes Go.ChangeAt Go.RowKit
section
variable {o : Own} {w : World} {t : Nat} {s s' s1 : St} {vn vg : Value} {d a : Nat} {ls : List ByteArray} {js : List Nat}
/-- A call that leaves 'Q'. -/
def Leaves (f : FuncId) (args : Array Value) (w : World) (Q : World → Prop) : Prop := Calls Tryz.prog f args w fun e w' => e = .returned (.tuple #[]) ∧ Q w'
theorem changeInner (h : Rep o w t s vn vg) {at_ i : Nat} {n : Node} (hn : s.ns[at_]? = some n) (hk0 : 0 < n.kids.length) (hks : ∀ c ∈ n.kids, c < s.ns.length) (hi : i < 2 ^ 40) (fv : Value) (Q : World → Prop)
    (HR : ∀ k i' kd q : Nat, n.kids[k]? = some kd → i = ((n.kids.take k).map s.cnt).sum + i' → (i' < s.cnt kd ∨ k + 1 = n.kids.length) →
      Leaves 191 #[.pointer (some ⟨t, 0, none⟩), .int .i64 kd, .int .i64 i', fv] (w.drewN q) fun w1 => Leaves 207 #[.pointer (some ⟨t, 0, none⟩), .int .i64 at_, .int .i64 k] w1 fun w2 => Leaves 208 #[.pointer (some ⟨t, 0, none⟩), .int .i64 at_] w2 Q) :
    Leaves 191 #[.pointer (some ⟨t, 0, none⟩), .int .i64 at_, .int .i64 i, fv] w Q := by
  have lA : at_ < s.ns.length := (List.getElem?_eq_some_iff.1 hn).1
  obtain ⟨b, cap, hvn, hob, n1, n2, hcc⟩ := h.nodeCells (by omega)
  clear hcc
  obtain ⟨a0, ca0, ca1, ca2, ca3, cf⟩ := h.cellsAt hn hvn
  obtain ⟨kb, kc, hvk, hko, hk1, hk2, hkc⟩ := kidsCells h hn (by simp) hk0
  rw [hvk] at ca1
  rw [hvn] at a0
  have HL := last_any h hn
  rw [show decide (n.kids = []) = false by simp; exact List.ne_nil_of_length_pos hk0] at HL
  have HK := kid_any h hn hk0 hks hi
  have HKC : Hid (∀ (j : Nat) k, n.kids[j]? = some k → w.cell? ⟨kb, j, none⟩ = some (.int .i64 k)) := fun j k hj => (hkc j k hj).1
  have HRR : Hid (∀ k i' kd q : Nat, n.kids[k]? = some kd → i = ((n.kids.take k).map s.cnt).sum + i' → (i' < s.cnt kd ∨ k + 1 = n.kids.length) →
      Leaves 191 #[.pointer (some ⟨t, 0, none⟩), .int .i64 kd, .int .i64 i', fv] (w.drewN q) fun w1 => Leaves 207 #[.pointer (some ⟨t, 0, none⟩), .int .i64 at_, .int .i64 k] w1 fun w2 => Leaves 208 #[.pointer (some ⟨t, 0, none⟩), .int .i64 at_] w2 Q) := HR
  unfold maxLen at n2 hk2
  generalize hK : n.kids.length = K at ca1 hk1 hk0
  have HKL : Hid (n.kids.length = K) := hK
  clear h hn hkc hvn hvk ca0 ca2 ca3 cf HR hks hK
  unfold Leaves
  go_enter Tryz.func191, Tryz.ntmps191
  go_wp2_with (go_at_call 94; refine HL.mono ?_; rintro e w ⟨rfl, rfl⟩)
  refine HK.mono ?_
  rintro e w1 ⟨⟨k, i', kd, rfl, hkd, hsum, hor⟩, q, rfl⟩
  have hkl : k < K := by rw [← HKL.out]; exact (List.getElem?_eq_some_iff.1 hkd).1
  have hcell := HKC.out k kd hkd
  have HX : Hid (∀ q, Leaves 191 #[.pointer (some ⟨t, 0, none⟩), .int .i64 kd, .int .i64 i', fv] (w.drewN q) fun w1 => Leaves 207 #[.pointer (some ⟨t, 0, none⟩), .int .i64 at_, .int .i64 k] w1 fun w2 => Leaves 208 #[.pointer (some ⟨t, 0, none⟩), .int .i64 at_] w2 Q) := fun q => HRR.out k i' kd q hkd hsum hor
  clear hkd hsum hor HK HL
  go_wp2_with fail
  refine Calls.mono (HX.out _) ?_
  rintro e w2 ⟨rfl, H2⟩
  go_wp2_with fail
  refine Calls.mono H2 ?_
  rintro e w3 ⟨rfl, H3⟩
  go_wp2_with fail
  refine Calls.mono H3 ?_
  rintro e w4 ⟨rfl, H4⟩
  go_wp2_with fail
  go_end0
  exact ⟨rfl, H4⟩
end
/-- What is done to a list of lines at a place. -/
inductive Edit where
  | ins (y : ByteArray) | del | set (y : ByteArray)
def Edit.ok : Edit → Nat → Nat → Prop
  | .ins _, n, k => k ≤ n
  | .del, n, k => k < n
  | .set _, n, k => k < n
def Edit.run : Edit → List ByteArray → Nat → List ByteArray
  | .ins y, l, k => l.take k ++ y :: l.drop k
  | .del, l, k => l.take k ++ l.drop (k + 1)
  | .set y, l, k => l.set k y
def Edit.more : Edit → Nat
  | .ins y => y.size
  | .del => 0
  | .set y => y.size
theorem Edit.mid (e : Edit) (l m r : List ByteArray) (k : Nat) (h : e.ok m.length k) : e.run (l ++ (m ++ r)) (l.length + k) = l ++ (e.run m k ++ r) := by
  cases e with
  | ins y =>
    have h : k ≤ m.length := h
    simp only [Edit.run]
    rw [List.take_length_add_append, List.drop_length_add_append, List.take_append_of_le_length h, List.drop_append_of_le_length h]; simp
  | del =>
    have h : k < m.length := h
    simp only [Edit.run]
    rw [Nat.add_assoc, List.take_length_add_append, List.drop_length_add_append, List.take_append_of_le_length (by omega), List.drop_append_of_le_length (by omega)]; simp
  | set y =>
    have h : k < m.length := h
    simp only [Edit.run]
    rw [List.set_append_right _ _ (by omega), Nat.add_sub_cancel_left, List.set_append_left _ _ h]
theorem Edit.len (e : Edit) (l : List ByteArray) (k : Nat) (h : e.ok l.length k) : (e.run l k).length ≤ l.length + 1 ∧ l.length ≤ (e.run l k).length + 1 := by
  cases e with
  | ins y => have h : k ≤ l.length := h; simp [Edit.run]; omega
  | del => have h : k < l.length := h; simp [Edit.run]; omega
  | set y => simp [Edit.run]
theorem sizes_cons (y : ByteArray) (l : List ByteArray) : sizes (y :: l) = y.size + sizes l := by simp [sizes]
theorem sizes_cut (l : List ByteArray) (k : Nat) : sizes l = sizes (l.take k) + sizes (l.drop k) := by rw [← sizes_app, List.take_append_drop]
theorem Edit.size (e : Edit) (l : List ByteArray) (k : Nat) : sizes (e.run l k) ≤ sizes l + e.more := by
  cases e with
  | ins y => simp only [Edit.run, Edit.more, sizes_app, sizes_cons]; have := sizes_cut l k; omega
  | del => simp only [Edit.run, Edit.more, sizes_app]; have := sizes_cut l k; have := sizes_drop (l.drop k) 1; rw [List.drop_drop] at this; omega
  | set y =>
    simp only [Edit.run, Edit.more]
    by_cases h : k < l.length
    · rw [List.set_eq_take_append_cons_drop, if_pos h, sizes_app, sizes_cons]
      have := sizes_cut l k; have := sizes_drop (l.drop k) 1; rw [List.drop_drop] at this; omega
    · rw [List.set_eq_of_length_le (by omega)]; omega
/-- What a closure does to a leaf's lines. -/
def Does (f : FuncId) (caps : Array Value) (e : Edit) (o : Own) (w : World) : Prop := ∀ W : World, W.heap = w.heap → ∀ (g : Tag) (v : Value) (l : List ByteArray) (k : Nat), g ≠ .free → Row o W g 9 1 v l.length (strs l) → (∀ k, o k ≠ .free → k < W.heap.size) → e.ok l.length k → l.length < 400000000 →
  Calls Tryz.prog f (#[v, .int .i64 k] ++ caps) W fun ex w' => ∃ v', ex = .returned v' ∧ Turned o W g (e.run l k) v' w'
/-- The sub-tree at 'a' has the lines 'ls'' now; all else is as it was. -/
def Changed (s : St) (d a : Nat) (ls' : List ByteArray) (rest : List Nat) (s' : St) : Prop :=
  ∃ js', Sub s' d a ls' js' ∧ Full s' (js' ++ rest) ∧ (∀ x ∈ rest, s'.ns[x]? = s.ns[x]?) ∧ s'.wid a ≤ s.wid a + 1 ∧ s.wid a ≤ s'.wid a + 1 ∧ s'.ns.length ≤ s.ns.length + d ∧ s'.top = s.top
theorem changeIn_any {t : Nat} (e : Edit) (f : FuncId) (caps : Array Value) {fn : Func} (hf : Tryz.prog.funcs[f]? = some fn) (hnm : (fn.name == "runtime.NumGoroutine") = false) (hbd : fn.body.isNone = false) :
    ∀ (d : Nat) {s : St} {o : Own} {w : World} {vn vg : Value} {a i : Nat} {ls : List ByteArray} {js rest : List Nat}, Rep o w t s vn vg → Sub s d a ls js → Full s (js ++ rest) → s.wid a ≤ 8 → (0 < d → 2 ≤ s.wid a) → e.ok ls.length i → Does f caps e o w → ls.length < 2 ^ 39 → sizes ls + e.more < 2 ^ 62 → s.ns.length + d < 320000000 →
    Leaves 191 #[.pointer (some ⟨t, 0, none⟩), .int .i64 a, .int .i64 i, .func (.func f) #[] caps] w fun w' => ∃ s', Did o w t s' w' ∧ Changed s d a (e.run ls i) rest s'
  | 0, s, o, w, vn, vg, a, i, ls, js, rest, h, hs, hfl, hw8, _, hok, hdo, hb1, hb2, hns => by
    obtain ⟨rfl, v, hn⟩ := hs
    have hln := e.len ls i hok
    have hsz := e.size ls i
    have hwd : s.wid a = ls.length := by simp [St.wid, hn, Node.wid]
    have hap := hfl.apart (x := a) (by simp)
    refine (changeLeaf h (i := i) hn rfl f caps (e.run ls i) hf hnm hbd (fun W hW => ?_) (by omega) (by omega)).mono ?_
    · exact hdo W hW (.lines a) v ls i (by simp) ((h.heap hW).lines a _ hn (by simp)) (h.heap hW).lt hok (by omega)
    · rintro ex w' ⟨rfl, v', hD⟩
      have la := (List.getElem?_eq_some_iff.1 hn).1
      have hwd' : (s.put a ⟨v', .slice none 0 0, e.run ls i, [], (e.run ls i).length, sizes (e.run ls i)⟩).wid a = (e.run ls i).length := by simp [St.wid, put_same _ la, Node.wid]
      refine ⟨rfl, _, hD, [a], ⟨rfl, v', put_same _ la⟩, ⟨?_, fun g hg => ?_⟩, fun x hx => put_ne _ ?_, ?_, ?_, ?_, rfl⟩
      · rw [put_len]; exact hfl.perm
      · rw [put_ne _ (fun e => hap (by rw [← e]; exact hg))]; exact hfl.nil g hg
      · exact fun e' => hfl.ne (x := a) (y := x) (by simp) hx e'.symm
      · rw [hwd']; omega
      · rw [hwd']; omega
      · rw [put_len]; omega
  | d + 1, s, o, w, vn, vg, a, i, ls, js, rest, h, hs, hfl, hw8, hw2, hok, hdo, hb1, hb2, hns => by
    obtain ⟨u, ks, js', rfl, hn, hp, hA⟩ := hs
    have hA : All (Ok s d) ks ls js' := hA
    have hwd : s.wid a = ks.length := by simp [St.wid, hn, Node.wid]
    have hw2 := hw2 (by omega)
    rw [hwd] at hw8 hw2
    have hi : i < 2 ^ 40 := by
      have : i ≤ ls.length := by cases e with
        | ins y => exact hok
        | del => exact Nat.le_of_lt hok
        | set y => exact Nat.le_of_lt hok
      omega
    refine changeInner h hn hp (fun c hc => hfl.lt (by simp [hA.mem c hc])) hi _ _ ?_
    intro k i' kd q hkd hsum hor
    have hkd : ks[k]? = some kd := hkd
    have hkl : k < ks.length := (List.getElem?_eq_some_iff.1 hkd).1
    have hks : ks = ks.take k ++ kd :: ks.drop (k + 1) := by
      obtain ⟨_, e1⟩ := List.getElem?_eq_some_iff.1 hkd
      rw [← e1]; simp
    have hkl' : (ks.take k).length = k := by simp; omega
    have hsum : i = ((ks.take k).map s.cnt).sum + i' := hsum
    have hor : i' < s.cnt kd ∨ k + 1 = ks.length := hor
    rw [hks] at hA
    obtain ⟨lx, lz, jx, jz, rfl, rfl, hX, hZ⟩ := hA.cut
    obtain ⟨lc, ly, jc, jy, rfl, rfl, hC, hY⟩ := hZ
    rw [hX.cnt.1] at hsum
    rw [hC.1.cnt.1] at hor
    have hok' : e.ok lc.length i' := by
      have hyl : k + 1 = ks.length → ly = [] := fun e1 => by
        rw [List.drop_eq_nil_of_le (by omega)] at hY; exact hY.1
      subst hsum
      cases e with
      | ins y =>
        have : lx.length + i' ≤ (lx ++ (lc ++ ly)).length := hok
        simp at this
        show i' ≤ lc.length
        rcases hor with h1 | h1
        · omega
        · rw [hyl h1] at this; simp at this; omega
      | del =>
        have : lx.length + i' < (lx ++ (lc ++ ly)).length := hok
        simp at this
        show i' < lc.length
        rcases hor with h1 | h1
        · omega
        · rw [hyl h1] at this; simp at this; omega
      | set y =>
        have : lx.length + i' < (lx ++ (lc ++ ly)).length := hok
        simp at this
        show i' < lc.length
        rcases hor with h1 | h1
        · omega
        · rw [hyl h1] at this; simp at this; omega
    rw [hsum, e.mid _ _ _ _ hok']
    have hln := e.len lc i' hok'
    have hsz := e.size lc i'
    simp only [sizes_app, List.length_append] at hb1 hb2
    have hfc : Full s (jc ++ (jx ++ jy ++ a :: rest)) := hfl.perm' (by
      have e0 : jc ++ (jx ++ jy ++ a :: rest) = (jc ++ jx ++ jy) ++ a :: rest := by simp
      rw [e0]
      refine List.perm_middle.trans ?_
      rw [List.cons_append]
      refine List.Perm.cons _ ?_
      refine List.Perm.append_right _ ?_
      rw [← List.append_assoc]
      exact List.Perm.append_right _ List.perm_append_comm)
    have IH := changeIn_any e f caps hf hnm hbd d (h.drewN q) (i := i') hC.1 hfc hC.2.2 (fun _ => by have := hC.2.1; omega) hok' (fun W hW => hdo W (by rw [hW, drewN_heap])) (by omega) (by omega) (by omega)
    refine Calls.mono IH ?_
    rintro ex w1 ⟨rfl, s1, ⟨o1, vn1, vg1, h1, k1⟩, jc', c1, c2, c3, c4, c5, c6, c7⟩
    refine ⟨rfl, ?_⟩
    have hn1 : s1.ns[a]? = some ⟨.slice none 0 0, u, [], ks, (lx ++ (lc ++ ly)).length, sizes (lx ++ (lc ++ ly))⟩ := by rw [c3 a (by simp)]; exact hn
    have hX1 := hX.frame (s' := s1) fun x hx => c3 x (by simp [hx])
    have hY1 := hY.frame (s' := s1) fun x hx => c3 x (by simp [hx])
    have hf1 : Full s1 ((jx ++ (jc' ++ jy)) ++ a :: rest) := c2.perm' (by
      rw [← List.append_assoc, ← List.append_assoc]
      refine List.Perm.append_right _ ?_
      rw [← List.append_assoc]
      exact List.Perm.append_right _ List.perm_append_comm)
    have hwk := hC.2
    have hM := mend_any h1 (by omega) hn1 hw8 hw2 hks hX1 c1 hY1 (by omega) hf1 (by simp only [List.length_append]; omega) (by simp only [sizes_app]; omega)
    rw [hkl'] at hM
    refine Calls.mono hM ?_
    rintro ex w2 ⟨rfl, s2, m, ⟨o2, vn2, vg2, h2, k2⟩, ⟨ks2, js2, u2, m1, m2, m3, m4, m5, m6, m7, m8⟩, m9, m10⟩
    refine ⟨rfl, ?_⟩
    have hc2 := m2.cnt
    have hja : ∀ x ∈ js2, x ≠ a := fun x hx => m3.ne hx (by simp)
    have la := (List.getElem?_eq_some_iff.1 m1).1
    have m9' : m ≤ ks.length + 1 := m9
    have m10' : ks.length ≤ m + 1 := m10
    have hW := weigh_any h2 m1 (fun x hx => ⟨m3.lt (by simp [m2.mem x hx]), hja x (m2.mem x hx)⟩) (by
      show 0 + (ks2.map s2.cnt).sum < _; rw [hc2.1]; simp only [List.length_append]; omega) (by
      show sizes [] + (ks2.map s2.byt).sum < _; rw [hc2.2, show sizes [] = 0 from rfl]; simp only [sizes_app]; omega)
    refine Calls.mono hW ?_
    rintro ex w3 ⟨rfl, h3, k3⟩
    have e1 : ([] : List ByteArray).length + (ks2.map s2.cnt).sum = (lx ++ (e.run lc i' ++ ly)).length := by rw [hc2.1]; exact Nat.zero_add _
    have e2 : sizes [] + (ks2.map s2.byt).sum = sizes (lx ++ (e.run lc i' ++ ly)) := by rw [hc2.2]; exact Nat.zero_add _
    simp only [e1, e2] at h3
    refine ⟨rfl, _, ⟨o2, vn2, vg2, h3, ((Keeps.drewN o w q).trans k1).trans (k2.trans k3)⟩, a :: js2, ⟨u2, ks2, js2, rfl, put_same _ la, by omega, m2.frame fun x hx => put_ne _ (hja x hx)⟩, ⟨?_, fun g hg => ?_⟩, fun x hx => ?_, ?_, ?_, ?_, ?_⟩
    · rw [put_len]
      exact (List.Perm.append_right _ (List.perm_middle.symm)).trans m3.perm
    · rw [put_ne _ (fun e' => m3.apart (x := a) (by simp) (by rw [← e']; exact hg))]; exact m3.nil g hg
    · have hxa : x ≠ a := fun e' => by
        have := (List.nodup_append.1 (List.nodup_append.1 m3.nodup).1).2.1
        exact (List.nodup_cons.1 this).1 (by rw [← e']; exact hx)
      rw [put_ne _ hxa, m4 x hx, c3 x (by simp [hx])]
    · rw [hwd]; simp only [St.wid, put_same _ la, Option.map_some, Option.getD_some, Node.wid]; show 0 + ks2.length ≤ _; omega
    · rw [hwd]; simp only [St.wid, put_same _ la, Option.map_some, Option.getD_some, Node.wid]; show _ ≤ 0 + ks2.length + 1; omega
    · rw [put_len]; omega
    · show s2.top = s.top; rw [m8, c7]
end Go.Proofs.YtaefeakmlgjonaaGreat.Tz
/- The call change. -/
namespace Go.Proofs.YtaefeakmlgjonaaGreat.Tz
set_option maxRecDepth 100000
open Go.ChangeShapes Go.WideShapes Go.ChangeAt Go.RowKit
section
variable {o : Own} {w : World} {t : Nat} {s s' s1 : St} {vn vg : Value} {d a : Nat} {ls : List ByteArray} {js : List Nat}
theorem change_walk (h : Rep o w t s vn vg) {i : Nat} {fv : Value} {P : St → Prop} {Q : World → Prop}
    (HC : Leaves 191 #[.pointer (some ⟨t, 0, none⟩), .int .i64 s.top, .int .i64 i, fv] w fun w1 => ∃ s1, Did o w t s1 w1 ∧ P s1)
    (HP : ∀ s1, P s1 → ∃ n1, s1.ns[s1.top]? = some n1 ∧ n1.lines.length + n1.kids.length < 1000)
    (HG : ∀ s1 w1 n1 q, P s1 → Did o w t s1 w1 → s1.ns[s1.top]? = some n1 → 8 < n1.lines.length + n1.kids.length → Leaves 193 #[.pointer (some ⟨t, 0, none⟩)] (w1.drewN q) Q)
    (HS : ∀ s1 w1 n1 q, P s1 → Did o w t s1 w1 → s1.ns[s1.top]? = some n1 → n1.lines.length + n1.kids.length = 1 → n1.kids ≠ [] → Leaves 194 #[.pointer (some ⟨t, 0, none⟩)] (w1.drewN q) Q)
    (HQ : ∀ s1 w1 n1 q, P s1 → Did o w t s1 w1 → s1.ns[s1.top]? = some n1 → n1.lines.length + n1.kids.length ≤ 8 → (n1.lines.length + n1.kids.length = 1 → n1.kids = []) → Q (w1.drewN q)) :
    Leaves 174 #[.pointer (some ⟨t, 0, none⟩), .int .i64 i, fv] w Q := by
  have a2 := h.at2
  have HC' : Hid (Leaves 191 #[.pointer (some ⟨t, 0, none⟩), .int .i64 s.top, .int .i64 i, fv] w fun w1 => ∃ s1, Did o w t s1 w1 ∧ P s1) := HC
  have GP : Hid (∀ s1, P s1 → ∃ n1, s1.ns[s1.top]? = some n1 ∧ n1.lines.length + n1.kids.length < 1000) := HP
  have GG : Hid (∀ s1 w1 n1 q, P s1 → Did o w t s1 w1 → s1.ns[s1.top]? = some n1 → 8 < n1.lines.length + n1.kids.length → Leaves 193 #[.pointer (some ⟨t, 0, none⟩)] (w1.drewN q) Q) := HG
  have GS : Hid (∀ s1 w1 n1 q, P s1 → Did o w t s1 w1 → s1.ns[s1.top]? = some n1 → n1.lines.length + n1.kids.length = 1 → n1.kids ≠ [] → Leaves 194 #[.pointer (some ⟨t, 0, none⟩)] (w1.drewN q) Q) := HS
  have GQ : Hid (∀ s1 w1 n1 q, P s1 → Did o w t s1 w1 → s1.ns[s1.top]? = some n1 → n1.lines.length + n1.kids.length ≤ 8 → (n1.lines.length + n1.kids.length = 1 → n1.kids = []) → Q (w1.drewN q)) := HQ
  clear HC HP HG HS HQ h
  unfold Leaves
  go_enter Tryz.func174, Tryz.ntmps174
  go_wp2_with fail
  refine Calls.mono HC'.out ?_
  rintro e w1 ⟨rfl, s1, HD, HP1⟩
  obtain ⟨n1, hn1, hlt⟩ := GP.out s1 HP1
  have G1 : Hid (∀ q, 8 < n1.lines.length + n1.kids.length → Leaves 193 #[.pointer (some ⟨t, 0, none⟩)] (w1.drewN q) Q) := fun q => GG.out s1 w1 n1 q HP1 HD hn1
  have G2 : Hid (∀ q, n1.lines.length + n1.kids.length = 1 → n1.kids ≠ [] → Leaves 194 #[.pointer (some ⟨t, 0, none⟩)] (w1.drewN q) Q) := fun q => GS.out s1 w1 n1 q HP1 HD hn1
  have G3 : Hid (∀ q, n1.lines.length + n1.kids.length ≤ 8 → (n1.lines.length + n1.kids.length = 1 → n1.kids = []) → Q (w1.drewN q)) := fun q => GQ.out s1 w1 n1 q HP1 HD hn1
  obtain ⟨o1, vn1, vg1, h1, k1⟩ := HD
  have b2 := h1.at2
  have HW := width_any h1 hn1 (by omega)
  have HL : Hid (∀ q, Calls Tryz.prog 94 #[.pointer (some ⟨t, 0, none⟩), .int .i64 s1.top] (w1.drewN q) fun e w' => e = .returned (.bool (decide (n1.kids = []))) ∧ w' = w1.drewN q) := fun q => last_any (h1.drewN q) hn1
  clear h1 k1 hn1 HP1 HC'
  by_cases h8 : 8 < n1.lines.length + n1.kids.length
  · have HX : Hid (∀ q, Leaves 193 #[.pointer (some ⟨t, 0, none⟩)] (w1.drewN q) Q) := fun q => G1.out q h8
    generalize n1.lines.length + n1.kids.length = Wd at *
    have hd1 : decide ((8 : Int) < (Wd : Int)) = true := by simp; omega
    go_wp2_with (first | (go_at_call 192; refine HW.mono ?_; rintro e w2 ⟨rfl, q, rfl⟩) | (go_at_call 193; refine Calls.mono (HX.out _) ?_; rintro e w3 ⟨rfl, HQ3⟩))
    go_end0
    exact ⟨rfl, HQ3⟩
  · by_cases h9 : n1.lines.length + n1.kids.length = 1
    · by_cases hk : n1.kids = []
      · have HX : Hid (∀ q, Q (w1.drewN q)) := fun q => G3.out q (by omega) (fun _ => hk)
        have HL2 : Hid (∀ q, Calls Tryz.prog 94 #[.pointer (some ⟨t, 0, none⟩), .int .i64 s1.top] (w1.drewN q) fun e w' => e = .returned (.bool true) ∧ w' = w1.drewN q) := fun q => by have := HL.out q; rw [show decide (n1.kids = []) = true by simp [hk]] at this; exact this
        rw [h9] at HW
        clear hk h8 h9 hlt HL
        go_wp2_with (first | (go_at_call 192; refine HW.mono ?_; rintro e w2 ⟨rfl, q, rfl⟩) | (go_at_call 94; refine Calls.mono (HL2.out _) ?_; rintro e w3 ⟨rfl, rfl⟩))
        go_end0
        exact ⟨rfl, HX.out _⟩
      · have HX : Hid (∀ q, Leaves 194 #[.pointer (some ⟨t, 0, none⟩)] (w1.drewN q) Q) := fun q => G2.out q h9 hk
        have HL2 : Hid (∀ q, Calls Tryz.prog 94 #[.pointer (some ⟨t, 0, none⟩), .int .i64 s1.top] (w1.drewN q) fun e w' => e = .returned (.bool false) ∧ w' = w1.drewN q) := fun q => by have := HL.out q; rw [show decide (n1.kids = []) = false by simp [hk]] at this; exact this
        rw [h9] at HW
        clear hk h8 h9 hlt HL
        go_wp2_with (first | (go_at_call 192; refine HW.mono ?_; rintro e w2 ⟨rfl, q, rfl⟩) | (go_at_call 94; refine Calls.mono (HL2.out _) ?_; rintro e w3 ⟨rfl, rfl⟩) | (go_at_call 194; refine Calls.mono (HX.out _) ?_; rintro e w4 ⟨rfl, HQ3⟩))
        go_end0
        exact ⟨rfl, HQ3⟩
    · have HX : Hid (∀ q, Q (w1.drewN q)) := fun q => G3.out q (by omega) (fun e => absurd e h9)
      generalize n1.lines.length + n1.kids.length = Wd at *
      have hd1 : decide ((8 : Int) < (Wd : Int)) = false := by simp; omega
      have hd2 : ((Wd : Int) == 1) = false := by simp; omega
      have hd3 : ¬ ((Wd : Int) = 1) := by omega
      go_wp2_with (first | (go_at_call 192; refine HW.mono ?_; rintro e w2 ⟨rfl, q, rfl⟩))
      go_end0
      exact ⟨rfl, HX.out _⟩

/-- The whole tree. -/
def Inv (s : St) (d : Nat) (ls : List ByteArray) : Prop := ∃ js, Sub s d s.top ls js ∧ Full s js ∧ s.wid s.top ≤ 8 ∧ (0 < d → 2 ≤ s.wid s.top)
theorem GrowTo.inv {nt : Node} (h : GrowTo s nt s') (hn : s.ns[s.top]? = some nt) (hs : Sub s d s.top ls js) (hf : Full s js) (hw : 8 < s.wid s.top ∧ s.wid s.top ≤ 16) : Inv s' (d + 1) ls ∧ s'.ns.length ≤ s.ns.length + 2 := by
  obtain ⟨r, s1, v, r2, s3, u, ⟨hfr, htop⟩, hS, hr3, rfl⟩ := h
  have hrj : r ∉ js := by
    rcases hfr with ⟨e, _⟩ | ⟨_, _, e, _⟩
    · intro hm; exact hf.apart hm (by rw [e]; simp)
    · intro hm; have := hf.lt hm; omega
  have hold : ∀ x, x < s.ns.length → s1.ns[x]? = s.ns[x]? := fun x hx => by
    rcases hfr with ⟨_, e⟩ | ⟨_, _, _, e⟩
    · rw [e]
    · rw [e, List.getElem?_append_left hx]
  have hrl : r < s1.ns.length := by
    rcases hfr with ⟨e1, e⟩ | ⟨_, _, e1, e⟩
    · rw [e]
      have := hf.nil r (by rw [e1]; simp)
      exact (List.getElem?_eq_some_iff.1 this).1
    · rw [e]; simp; omega
  have hlen1 : s1.ns.length ≤ s.ns.length + 1 := by
    rcases hfr with ⟨_, e⟩ | ⟨_, _, _, e⟩
    · rw [e]; omega
    · rw [e]; simp
  have hT : ∀ x, x ≠ r → x < s.ns.length → (topOver s1 r s.top v).ns[x]? = s.ns[x]? := fun x hx hl => (put_ne _ hx).trans (hold x hl)
  have hj : ∀ x ∈ js, (topOver s1 r s.top v).ns[x]? = s.ns[x]? := fun x hx => hT x (fun e => hrj (by rw [← e]; exact hx)) (hf.lt hx)
  have hsT := hs.frame hj
  have hlT : (topOver s1 r s.top v).ns.length = s1.ns.length := put_len _ _ _
  have hfT : Full (topOver s1 r s.top v) (([] ++ (js ++ [])) ++ (r :: [])) := by
    refine ⟨?_, fun g hg => ?_⟩
    · rw [hlT]
      show ((([] ++ (js ++ [])) ++ (r :: [])) ++ s1.gone).Perm _
      simp only [List.nil_append, List.append_nil]
      rcases hfr with ⟨e1, e⟩ | ⟨e0, e1, e2, e⟩
      · rw [e]
        refine List.Perm.trans ?_ hf.perm
        rw [e1, List.append_assoc]
        exact List.Perm.append_left _ List.perm_append_comm
      · have hp := hf.perm
        rw [e0, List.append_nil] at hp
        rw [e, e1, List.append_nil, e2, List.length_append, List.length_singleton, List.range_succ]
        exact hp.append_right _
    · have hg' : g ∈ s1.gone := hg
      have hgs : g ∈ s.gone ∧ g ≠ r := by
        rcases hfr with ⟨e1, e⟩ | ⟨e0, e1, e2, e⟩
        · refine ⟨by rw [e1]; simp [hg'], fun e' => ?_⟩
          have h1 := (List.nodup_append.1 hf.nodup).2.1
          rw [e1] at h1
          exact absurd rfl ((List.nodup_append.1 h1).2.2 r (by rw [← e']; exact hg') r (by simp))
        · rw [e1] at hg'; cases hg'
      have := hf.nil g hgs.1
      rw [hT g hgs.2 (List.getElem?_eq_some_iff.1 this).1]; exact this
  have hnT : (topOver s1 r s.top v).ns[s.top]? = some nt := by rw [hj _ hs.mem]; exact hn
  have hwT : (topOver s1 r s.top v).wid s.top = s.wid s.top := by simp only [St.wid, hj _ hs.mem]
  have hM := mid_split (xs := []) (ys := []) (jx := []) (jy := []) (lx := []) (ly := []) hS hnT rfl ⟨rfl, rfl⟩ hsT ⟨rfl, rfl⟩ (by rw [hwT]; exact hw) hfT
  obtain ⟨ks', js', u', m1, m2, m3, m4, m5, m6, m7, m8⟩ := hM
  rw [hr3] at m1
  simp only [Option.some.injEq, Node.mk.injEq] at m1
  obtain ⟨_, _, _, rfl, _⟩ := m1
  simp only [List.nil_append, List.append_nil] at m2
  have hc := m2.cnt
  simp only [List.map_cons, List.map_nil, List.sum_cons, List.sum_nil, Nat.add_zero] at hc
  have hl3 := (List.getElem?_eq_some_iff.1 hr3).1
  have hja : ∀ x ∈ js', x ≠ r := fun x hx => m3.ne hx (by simp)
  have hrt : s3.top = r := hS.top
  refine ⟨⟨r :: js', ?_, ⟨?_, fun g hg => ?_⟩, ?_, fun _ => ?_⟩, ?_⟩
  · show Sub _ (d + 1) s3.top ls _
    rw [hrt, hc.1, hc.2]
    exact ⟨u, [s.top, r2], js', rfl, put_same _ hl3, by simp, m2.frame fun x hx => put_ne _ (hja x hx)⟩
  · rw [put_len]
    refine List.Perm.trans (List.Perm.append_right _ ?_) m3.perm
    exact (List.perm_append_singleton r js').symm
  · rw [put_ne _ (fun e' => m3.apart (x := r) (by simp) (by rw [← e']; exact hg))]; exact m3.nil g hg
  · show St.wid _ s3.top ≤ 8
    rw [hrt]; simp only [St.wid, put_same _ hl3, Option.map_some, Option.getD_some, Node.wid]; simp
  · show 2 ≤ St.wid _ s3.top
    rw [hrt]; simp only [St.wid, put_same _ hl3, Option.map_some, Option.getD_some, Node.wid]; simp
  · rw [put_len]; omega
theorem shrink_inv {n : Node} {c : Nat} (hn : s.ns[s.top]? = some n) (hk : n.kids = [c]) (hs : Sub s d s.top ls js) (hf : Full s js) : ∃ d', Inv { s.put s.top nilNode with top := c, gone := s.gone ++ [s.top] } d' ls := by
  cases d with
  | zero => obtain ⟨rfl, v, h⟩ := hs; rw [h] at hn; injection hn with hn; subst hn; cases hk
  | succ d =>
    obtain ⟨u, ks, js', rfl, h, hp, hA⟩ := hs
    have hA : All (Ok s d) ks ls js' := hA
    rw [h] at hn; injection hn with hn; subst hn
    have hk : ks = [c] := hk
    subst hk
    have hO := hA.head
    have lt := (List.getElem?_eq_some_iff.1 h).1
    have hnd := (List.nodup_append.1 hf.nodup).1
    have hja : ∀ x ∈ js', x ≠ s.top := fun x hx e => (List.nodup_cons.1 hnd).1 (by rw [← e]; exact hx)
    have hfr : ∀ x ∈ js', (St.mk (s.ns.set s.top nilNode) (s.gone ++ [s.top]) c).ns[x]? = s.ns[x]? := fun x hx => put_ne (s := s) nilNode (hja x hx)
    have hwd : (St.mk (s.ns.set s.top nilNode) (s.gone ++ [s.top]) c).wid c = s.wid c := by simp only [St.wid, hfr c hO.1.mem]
    refine ⟨d, js', hO.1.frame hfr, ⟨?_, fun g hg => ?_⟩, ?_, fun _ => ?_⟩
    · show (js' ++ (s.gone ++ [s.top])).Perm (List.range (s.ns.set s.top nilNode).length)
      rw [List.length_set, ← List.append_assoc]
      exact (List.perm_append_singleton _ _).trans hf.perm
    · have hg : g ∈ s.gone ++ [s.top] := hg
      rcases List.mem_append.1 hg with hg | hg
      · exact (put_ne (s := s) nilNode (fun e => hf.apart (x := s.top) (by simp) (by rw [← e]; exact hg))).trans (hf.nil g hg)
      · simp at hg; rw [hg]; exact put_same (s := s) nilNode lt
    · show St.wid _ c ≤ 8; have := hO.2; exact hwd ▸ this.2
    · show 2 ≤ St.wid _ c; have := hO.2.1; have e : St.wid { s.put s.top nilNode with top := c, gone := s.gone ++ [s.top] } c = s.wid c := hwd
      rw [e]; omega
theorem All.len {ks : List Nat} {m : Nat} (h : All (Ok s d) ks ls js) (hm : ∀ c l j, Ok s d c l j → m ≤ l.length) : ks.length * m ≤ ls.length := by
  induction ks generalizing ls js with
  | nil => simp
  | cons c cs ih =>
    obtain ⟨a1, a2, b1, b2, rfl, rfl, hp, hr⟩ := h
    have h1 := ih hr; have h2 := hm c a1 b1 hp
    rw [List.length_cons, List.length_append, Nat.add_mul]; omega
theorem Ok.len {c : Nat} (h : Ok s d c ls js) : 4 ^ (d + 1) ≤ ls.length := by
  induction d generalizing c ls js with
  | zero =>
    obtain ⟨⟨rfl, v, h⟩, h4, _⟩ := h
    simp [St.wid, h, Node.wid] at h4; simpa using h4
  | succ d ih =>
    obtain ⟨⟨u, ks, js', rfl, h, hp, hA⟩, h4, _⟩ := h
    simp [St.wid, h, Node.wid] at h4
    have := All.len (m := 4 ^ (d + 1)) hA fun c l j hc => ih hc
    rw [Nat.pow_succ]
    have h5 : 4 * 4 ^ (d + 1) ≤ ks.length * 4 ^ (d + 1) := Nat.mul_le_mul_right _ h4
    omega
theorem Inv.depth (h : Inv s d ls) : 0 < d → 2 * 4 ^ d ≤ ls.length := by
  intro hd
  obtain ⟨js, hs, _, _, h2⟩ := h
  cases d with
  | zero => omega
  | succ d =>
    have h2 := h2 hd
    obtain ⟨u, ks, js', rfl, h, hp, hA⟩ := hs
    simp [St.wid, h, Node.wid] at h2
    have := All.len (m := 4 ^ (d + 1)) hA fun c l j hc => Ok.len hc
    have h5 : 2 * 4 ^ (d + 1) ≤ ks.length * 4 ^ (d + 1) := Nat.mul_le_mul_right _ h2
    omega
theorem Inv.deep (h : Inv s d ls) (hl : ls.length < 2 ^ 39) : d < 20 := by
  by_cases hd : d < 20
  · exact hd
  · have h1 := h.depth (by omega)
    have h2 : 4 ^ 20 ≤ 4 ^ d := Nat.pow_le_pow_right (by omega) (by omega)
    have : (4 : Nat) ^ 20 = 2 ^ 40 := by decide
    omega
theorem change_any (h : Rep o w t s vn vg) (hI : Inv s d ls) (e : Edit) (f : FuncId) (caps : Array Value) {fn : Func} (hf : Tryz.prog.funcs[f]? = some fn) (hnm : (fn.name == "runtime.NumGoroutine") = false) (hbd : fn.body.isNone = false) {i : Nat} (hok : e.ok ls.length i) (hdo : Does f caps e o w) (hb1 : ls.length < 2 ^ 38) (hb2 : sizes ls + e.more < 2 ^ 62) (hns : s.ns.length < 280000000) :
    Leaves 174 #[.pointer (some ⟨t, 0, none⟩), .int .i64 i, .func (.func f) #[] caps] w fun w' => ∃ s' d', Did o w t s' w' ∧ Inv s' d' (e.run ls i) ∧ s'.ns.length ≤ s.ns.length + 22 := by
  have hdeep := hI.deep (by omega)
  obtain ⟨js, hs, hfl, hw8, hw2⟩ := hI
  have hln := e.len ls i hok
  have hsz := e.size ls i
  refine change_walk h (P := Changed s d s.top (e.run ls i) []) (changeIn_any e f caps hf hnm hbd d h hs (by simpa using hfl) hw8 hw2 hok hdo (by omega) (by omega) (by omega)) ?_ ?_ ?_ ?_
  · rintro s1 ⟨js', c1, c2, c3, c4, c5, c6, c7⟩
    rw [← c7] at c1
    obtain ⟨n1, P⟩ := c1.parts
    have := P.wid
    exact ⟨n1, P.node, by rw [← this, c7]; omega⟩
  · rintro s1 w1 n1 q ⟨js', c1, c2, c3, c4, c5, c6, c7⟩ ⟨o1, vn1, vg1, h1, k1⟩ hn1 h8
    rw [← c7] at c1
    rw [List.append_nil] at c2
    obtain ⟨n1', P⟩ := c1.parts
    obtain rfl : n1 = n1' := by have := P.node; rw [hn1] at this; injection this
    have hwd := P.wid
    rw [c7] at hwd
    have hnd := (List.nodup_append.1 c2.nodup)
    refine Calls.mono (grow_any (h1.drewN q) (by omega) hn1 (fun r hr => ⟨c2.nil r hr, fun e' => c2.apart c1.mem (by rw [← e']; exact hr), fun hm => c2.apart (P.mem r hm) hr⟩) hnd.2.1
      (fun e' => by
        rcases Nat.eq_zero_or_pos d with hd | hd
        · exact (P.leaf hd).2
        · have := (P.inner hd).2.2; rw [e'] at this; simp at this)
      (fun e' => by
        rcases Nat.eq_zero_or_pos d with hd | hd
        · have := (P.leaf hd).1; rw [this, e'] at h8; simp at h8
        · exact (P.inner hd).2.1)
      (fun x hx => ⟨c2.lt (P.mem x hx), P.ne hnd.1 x hx⟩) (by rw [P.cnt]; omega) (by rw [P.byt]; omega) (by omega)) ?_
    rintro ex w2 ⟨rfl, s2, hG, o2, vn2, vg2, h2, k2⟩
    have hwd1 : s1.wid s1.top = s1.wid s.top := by rw [c7]
    obtain ⟨g1, g2⟩ := hG.inv hn1 c1 c2 (by rw [hwd1]; omega)
    exact ⟨rfl, s2, d + 1, ⟨o2, vn2, vg2, h2, (k1.drewN' q).trans k2⟩, g1, by omega⟩
  · rintro s1 w1 n1 q ⟨js', c1, c2, c3, c4, c5, c6, c7⟩ ⟨o1, vn1, vg1, h1, k1⟩ hn1 h9 hk
    rw [← c7] at c1
    rw [List.append_nil] at c2
    have hgl := c2.gone_len
    obtain ⟨c, hc⟩ : ∃ c, n1.kids = [c] := by
      match hkk : n1.kids with
      | [] => exact absurd hkk hk
      | [c] => exact ⟨c, rfl⟩
      | c :: c' :: r => rw [hkk] at h9; simp at h9; omega
    refine Calls.mono (shrink_any (h1.drewN q) hn1 (c := c) (by rw [hc]; rfl) (by omega)) ?_
    rintro ex w2 ⟨rfl, o2, vn2, vg2, h2, k2⟩
    obtain ⟨d', hI'⟩ := shrink_inv hn1 hc c1 c2
    refine ⟨rfl, _, d', ⟨o2, vn2, vg2, h2, (k1.drewN' q).trans k2⟩, hI', ?_⟩
    show (s1.ns.set s1.top nilNode).length ≤ _
    rw [List.length_set]; omega
  · rintro s1 w1 n1 q ⟨js', c1, c2, c3, c4, c5, c6, c7⟩ ⟨o1, vn1, vg1, h1, k1⟩ hn1 h8 hk
    rw [← c7] at c1
    rw [List.append_nil] at c2
    obtain ⟨n1', P⟩ := c1.parts
    obtain rfl : n1 = n1' := by have := P.node; rw [hn1] at this; injection this
    have hwd := P.wid
    refine ⟨s1, d, ⟨o1, vn1, vg1, h1.drewN q, k1.drewN' q⟩, ⟨js', c1, c2, by omega, fun hd => ?_⟩, by omega⟩
    rw [hwd]
    obtain ⟨p1, p2, p3⟩ := P.inner hd
    have hk' : n1.lines.length + n1.kids.length ≠ 1 := fun e' => by rw [hk e'] at p3; simp at p3
    omega
end
end Go.Proofs.YtaefeakmlgjonaaGreat.Tz
