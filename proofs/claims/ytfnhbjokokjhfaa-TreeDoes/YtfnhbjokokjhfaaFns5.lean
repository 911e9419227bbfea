/- The closures of Insert, Delete and Set; shrink; has. -/
import Derived.Test.YtfnhbjokokjhfaaJoinI
namespace Go.Proofs.Ytfnhbjokokjhfaa
open Go.ChangeShapes Go.WideShapes Go.ChangeAt Go.RowKit

/-- What a change of a leaf's lines leaves: 'l'' in a row of its owner's. -/
def Turned (o : Own) (w : World) (g : Tag) (l' : List ByteArray) (v' : Value) (w' : World) : Prop := ∃ o', Row o' w' g 9 1 v' l'.length (strs l') ∧ KB g o o' w w'
theorem insertF_any {o : Own} {w : World} {g : Tag} {v : Value} {l : List ByteArray} {i lb : Nat} {y : ByteArray} (hr : Row o w g 9 1 v l.length (strs l)) (hlt : ∀ k, o k ≠ .free → k < w.heap.size) (hg : g ≠ .free) (hi : i ≤ l.length) (hn : l.length < 100000000) (hy : w.cell? ⟨lb, 0, none⟩ = some (.string y)) :
    Calls Try.prog 31 #[v, .int .i64 i, .pointer (some ⟨lb, 0, none⟩)] w fun e w' => ∃ v', e = .returned v' ∧ Turned o w g (l.take i ++ y :: l.drop i) v' w' := by
  obtain ⟨a, c, rfl, h1, h2⟩ := hr.form
  have HC : Hid (Calls Try.prog 32 #[.slice a l.length c, .int .i64 i, .slice (some ⟨w.heap.size, 0, none⟩) 1 1] (w.alloc (.cells #[.string y] 9)) fun e w' => ∃ v', e = .returned v' ∧ Turned o w g (l.take i ++ y :: l.drop i) v' w') := by
    have hr' : Row o (w.alloc (.cells #[.string y] 9)) g 9 1 (.slice a l.length c) l.length (strs l) := hr.same fun k hk => alloc_old' w _ k (hr.lt hk)
    have hfree : o w.heap.size = .free := by
      by_cases h : o w.heap.size = .free
      · exact h
      · exact absurd (hlt _ h) (by omega)
    refine (insS_any (x := .string y) (vb := w.heap.size) hr' (strs_one _) (fun k hk => by have := hlt k hk; simp; omega) hg hi (by omega) (alloc_new w _) rfl hfree).mono ?_
    rintro e w' ⟨v', o', rfl, hrow, hkb⟩
    refine ⟨v', rfl, o', ?_, ?_⟩
    · have hlen : (l.take i ++ y :: l.drop i).length = l.length + 1 := by simp; omega
      rw [hlen]; simpa [strs, List.map_take, List.map_drop] using hrow
    · have k0 : KB g o o w (w.alloc (.cells #[.string y] 9)) := KB.below ((Below.refl _ w).alloc (Nat.le_refl _) _) hlt
      exact k0.trans hg hkb
  clear hr hlt
  go_enter Try.func31, Try.ntmps31
  go_wp2_with (go_at_call 32; refine HC.out.mono ?_; rintro e w1 ⟨v', rfl, HF⟩)
  go_ret
  exact ⟨_, rfl, HF⟩
theorem deleteF_any {o : Own} {w : World} {g : Tag} {v : Value} {l : List ByteArray} {i : Nat} (hr : Row o w g 9 1 v l.length (strs l)) (hlt : ∀ k, o k ≠ .free → k < w.heap.size) (hg : g ≠ .free) (hi : i < l.length) (hn : l.length < 100000000) :
    Calls Try.prog 34 #[v, .int .i64 i] w fun e w' => ∃ v', e = .returned v' ∧ Turned o w g (l.take i ++ l.drop (i + 1)) v' w' := by
  have HC : Hid (Calls Try.prog 35 #[v, .int .i64 i, .int .i64 ((i : Int) + 1)] w fun e w' => ∃ v', e = .returned v' ∧ Turned o w g (l.take i ++ l.drop (i + 1)) v' w') := by
    have hc := delS_any (i := i) (j := i + 1) hr hlt hg (by omega) (by omega)
    have ek : (((i + 1 : Nat)) : Int) = (i : Int) + 1 := by omega
    rw [ek] at hc
    refine hc.mono ?_
    rintro e w' ⟨v', rfl, _, hrow, hkb⟩
    refine ⟨v', rfl, o, ?_, hkb⟩
    have hlen : (l.take i ++ l.drop (i + 1)).length = l.length - (i + 1 - i) := by simp; omega
    rw [hlen]; exact hrow
  clear hr hlt
  go_enter Try.func34, Try.ntmps34
  go_wp2_with (go_at_call 35; refine HC.out.mono ?_; rintro e w1 ⟨v', rfl, HF⟩)
  go_ret
  exact ⟨_, rfl, HF⟩
theorem setF_any {o : Own} {w : World} {g : Tag} {v : Value} {l : List ByteArray} {i lb : Nat} {y : ByteArray} (hr : Row o w g 9 1 v l.length (strs l)) (hlt : ∀ k, o k ≠ .free → k < w.heap.size) (hi : i < l.length) (hy : w.cell? ⟨lb, 0, none⟩ = some (.string y)) :
    Calls Try.prog 40 #[v, .int .i64 i, .pointer (some ⟨lb, 0, none⟩)] w fun e w' => ∃ v', e = .returned v' ∧ Turned o w g (l.set i y) v' w' := by
  obtain ⟨b, cap, cur, rfl, hob, hb, h1, h2, h3, h4⟩ := hr.shape (by omega)
  simp only [Nat.mul_one] at h3 h4
  have hc : w.cell? ⟨b, i, none⟩ = some (.string l[i]) := (row_cell (size := 1) (n := l.length) hb (by simpa using h4) (cap := cap) (by simp [strs, hi])).1
  have hf : w.frozen? ⟨b, i, none⟩ = false := frozen_at hb _
  have HF : Hid (Turned o w g (l.set i y) (.slice (some ⟨b, 0, none⟩) l.length cap) (w.setCell ⟨b, i, none⟩ (.string y))) := by
    refine ⟨o, ?_, KB.setCells (b := b) hob hlt i [.string y]⟩
    rw [List.length_set]
    refine Row.put (L := cur.toList.set i (.string y)) hob ?_ h1 h2 (by simpa using h3) ?_
    · rw [heap_setCell hb]; congr 2; apply Array.ext'; simp
    · rw [List.take_set, h4]; simp [strs]
  unfold maxLen at h2
  clear hr hlt hb h3 h4
  go_enter Try.func40, Try.ntmps40
  go_wp2
  go_ret
  exact ⟨_, rfl, HF.out⟩
section
variable {o : Own} {w : World} {t : Nat} {s : St} {vn vg : Value}
theorem has_any (h : Rep o w t s vn vg) {n : Node} (hn : s.ns[s.top]? = some n) (hc : n.count < 2 ^ 60) (i m : Int) (hi : -9223372036854775808 ≤ i ∧ i ≤ 9223372036854775807) :
    Calls Try.prog 29 #[.pointer (some ⟨t, 0, none⟩), .int .i64 i, .int .i64 m] w fun e w' => e = .returned (.bool (decide (0 ≤ i ∧ 0 ≤ m ∧ m ≤ n.count - i))) ∧ ∃ q, w' = w.drewN q := by
  have HL := len_any h hn
  clear h hn
  by_cases h1 : 0 ≤ i
  · by_cases h2 : 0 ≤ m
    · have e : decide (0 ≤ i ∧ 0 ≤ m ∧ m ≤ n.count - i) = decide (m ≤ n.count - i) := by simp [h1, h2]
      rw [e]
      go_enter Try.func29, Try.ntmps29
      go_wp2_with (go_at_call 18; refine HL.mono ?_; rintro e w1 ⟨rfl, q, rfl⟩)
      go_ret
      exact ⟨rfl, _, rfl⟩
    · have e : decide (0 ≤ i ∧ 0 ≤ m ∧ m ≤ n.count - i) = false := by simp [h2]
      rw [e]
      go_enter Try.func29, Try.ntmps29
      go_wp2
      go_ret
      exact ⟨rfl, 0, rfl⟩
  · have e : decide (0 ≤ i ∧ 0 ≤ m ∧ m ≤ n.count - i) = false := by simp [h1]
    rw [e]
    go_enter Try.func29, Try.ntmps29
    go_wp2
    go_ret
    exact ⟨rfl, 0, rfl⟩
theorem shrink_any (h : Rep o w t s vn vg) {n : Node} {c : Nat} (hn : s.ns[s.top]? = some n) (hc : n.kids[0]? = some c) (hg : s.gone.length < 100000000) :
    Calls Try.prog 49 #[.pointer (some ⟨t, 0, none⟩)] w fun e w' => e = .returned (.tuple #[]) ∧ Did o w t { s.put s.top nilNode with top := c, gone := s.gone ++ [s.top] } w' := by
  have htop : s.top < s.ns.length := (List.getElem?_eq_some_iff.1 hn).1
  obtain ⟨b, cap, hvn, ho, h1, h2, hcc⟩ := h.nodeCells (by omega)
  clear hcc
  obtain ⟨a0, c0, c1, c2, c3, hf⟩ := h.cellsAt hn hvn
  have a2 := h.at2
  have f2 := h.atF 2
  obtain ⟨kb, kc, hvk, hko, hk1, hk2, hkc⟩ := kidsCells h hn (by simp) (by have := (List.getElem?_eq_some_iff.1 hc).1; omega)
  have hkp := (List.getElem?_eq_some_iff.1 hc).1
  have kc0 := (hkc 0 c hc).1
  rw [hvk] at c1
  have HD : Hid (Calls Try.prog 55 #[.pointer (some ⟨t, 0, none⟩), .int .i64 s.top] (w.setCell ⟨t, 2, none⟩ (.int .i64 c)) fun e w' => e = .returned (.tuple #[]) ∧ Did o w t { s.put s.top nilNode with top := c, gone := s.gone ++ [s.top] } w') := by
    have hr := h.storeTop c
    refine (drop_any hr (at_ := s.top) hn (show s.gone.length < 1000000000 by omega)).mono ?_
    rintro e w' ⟨rfl, o', vn', vg', q1, q2⟩
    exact ⟨rfl, o', vn', vg', q1, ((Keeps.refl o w).setCell (by rw [h.ot]; simp)).trans q2⟩
  rw [hvn] at a0
  unfold maxLen at h2 hk2
  clear h hn hc hkc hvn hvk c0 c2 c3
  go_enter Try.func49, Try.ntmps49
  go_wp2_with (go_at_call 55; refine HD.out.mono ?_; rintro e w1 ⟨rfl, HF⟩)
  go_end0
  exact ⟨rfl, HF⟩
end
end Go.Proofs.Ytfnhbjokokjhfaa
