/- The tree's calls Insert, Delete, Set, of lines. -/
import Derived.Test.YtfnhbjokokjhfabChange
namespace Go.Proofs.Ytfnhbjokokjhfab
open Go.ChangeShapes Go.WideShapes Go.ChangeAt Go.RowKit
/-- At block 't' lies a tree of the lines 'ls', of at most 'm' nodes. -/
def Tr (o : Own) (w : World) (t : Nat) (ls : List ByteArray) (m : Nat) : Prop := ∃ s vn vg d, Rep o w t s vn vg ∧ Inv s d ls ∧ s.ns.length ≤ m
def After (o : Own) (w : World) (t : Nat) (ls : List ByteArray) (m : Nat) (w' : World) : Prop := ∃ o', Tr o' w' t ls m ∧ Keeps o o' w w'
section
variable {o : Own} {w : World} {t m : Nat} {ls : List ByteArray}
theorem Tr.heap (h : Tr o w t ls m) {w' : World} (he : w'.heap = w.heap) : Tr o w' t ls m := by
  obtain ⟨s, vn, vg, d, h1, h2, h3⟩ := h
  exact ⟨s, vn, vg, d, h1.heap he, h2, h3⟩
theorem Tr.drewN (h : Tr o w t ls m) (q : Nat) : Tr o (w.drewN q) t ls m := h.heap (drewN_heap w q)
theorem Tr.alloc (h : Tr o w t ls m) (ob : Obj) : Tr o (w.alloc ob) t ls m := by
  obtain ⟨s, vn, vg, d, h1, h2, h3⟩ := h
  exact ⟨s, vn, vg, d, h1.alloc ob, h2, h3⟩
theorem Tr.mono (h : Tr o w t ls m) {m' : Nat} (hm : m ≤ m') : Tr o w t ls m' := by
  obtain ⟨s, vn, vg, d, h1, h2, h3⟩ := h
  exact ⟨s, vn, vg, d, h1, h2, by omega⟩
theorem Tr.lt (h : Tr o w t ls m) : ∀ k, o k ≠ .free → k < w.heap.size := by
  obtain ⟨s, vn, vg, d, h1, h2, h3⟩ := h
  exact h1.lt
theorem Tr.new (h : Tr o w t ls m) {k : Nat} (hk : w.heap.size ≤ k) : o k = .free := by
  obtain ⟨s, vn, vg, d, h1, h2, h3⟩ := h
  exact h1.free_new hk
theorem After.same (h : Tr o w t ls m) (q : Nat) : After o w t ls m (w.drewN q) := ⟨o, h.drewN q, Keeps.drewN o w q⟩
theorem Inv.top {s : St} {d : Nat} (h : Inv s d ls) : ∃ n, s.ns[s.top]? = some n ∧ n.count = ls.length ∧ n.bytes = sizes ls := by
  obtain ⟨js, hs, _⟩ := h; exact hs.node
theorem Tr.len (h : Tr o w t ls m) : Calls Try.prog 13 #[.pointer (some ⟨t, 0, none⟩)] w fun e w' => e = .returned (.int .i64 ls.length) ∧ ∃ q, w' = w.drewN q := by
  obtain ⟨s, vn, vg, d, h1, h2, h3⟩ := h
  obtain ⟨n, hn, hc, hb⟩ := h2.top
  rw [← hc]; exact len_any h1 hn
theorem Tr.has (h : Tr o w t ls m) (hl : ls.length < 2 ^ 38) (i n : Int) (hi : -9223372036854775808 ≤ i ∧ i ≤ 9223372036854775807) :
    Calls Try.prog 28 #[.pointer (some ⟨t, 0, none⟩), .int .i64 i, .int .i64 n] w fun e w' => e = .returned (.bool (decide (0 ≤ i ∧ 0 ≤ n ∧ n ≤ (ls.length : Int) - i))) ∧ ∃ q, w' = w.drewN q := by
  obtain ⟨s, vn, vg, d, h1, h2, h3⟩ := h
  obtain ⟨nd, hn, hc, hb⟩ := h2.top
  rw [← hc]; exact has_any h1 hn (by omega) i n hi
theorem Tr.change (h : Tr o w t ls m) (e : Edit) (f : FuncId) (caps : Array Value) {fn : Func} (hf : Try.prog.funcs[f]? = some fn) (hnm : (fn.name == "runtime.NumGoroutine") = false) (hbd : fn.body.isNone = false) {i : Nat} (hok : e.ok ls.length i) (hdo : Does f caps e o w) (hb1 : ls.length < 2 ^ 38) (hb2 : sizes ls + e.more < 2 ^ 62) (hm : m < 70000000) :
    Leaves 33 #[.pointer (some ⟨t, 0, none⟩), .int .i64 i, .func (.func f) #[] caps] w fun w' => After o w t (e.run ls i) (m + 22) w' := by
  obtain ⟨s, vn, vg, d, h1, h2, h3⟩ := h
  refine Calls.mono (change_any h1 h2 e f caps hf hnm hbd hok hdo hb1 hb2 (by omega)) ?_
  rintro ex w' ⟨rfl, s', d', ⟨o', vn', vg', q1, q2⟩, q3, q4⟩
  exact ⟨rfl, o', ⟨s', vn', vg', d', q1, q3, by omega⟩, q2⟩

theorem does_ins {lb : Nat} {y : ByteArray} (hy : w.cell? ⟨lb, 0, none⟩ = some (.string y)) : Does 37 #[.pointer (some ⟨lb, 0, none⟩)] (.ins y) o w := by
  intro W hW g v l k hg hr hlt hok hlen
  have hy' : W.cell? ⟨lb, 0, none⟩ = some (.string y) := by rw [← hy]; simp [World.cell?, hW]
  exact insertF_any hr hlt hg hok hlen hy'
theorem does_set {lb : Nat} {y : ByteArray} (hy : w.cell? ⟨lb, 0, none⟩ = some (.string y)) : Does 36 #[.pointer (some ⟨lb, 0, none⟩)] (.set y) o w := by
  intro W hW g v l k hg hr hlt hok hlen
  have hy' : W.cell? ⟨lb, 0, none⟩ = some (.string y) := by rw [← hy]; simp [World.cell?, hW]
  exact setF_any hr hlt hok hy'
theorem does_del : Does 34 #[] .del o w := by
  intro W hW g v l k hg hr hlt hok hlen
  exact deleteF_any hr hlt hg hok hlen

theorem insert_no (h : Tr o w t ls m) (hl : ls.length < 2 ^ 38) {y : ByteArray} (i : Int) (hi : -9223372036854775808 ≤ i ∧ i ≤ 9223372036854775807) (hno : ¬ (0 ≤ i ∧ i ≤ ls.length)) :
    Calls Try.prog 25 #[.pointer (some ⟨t, 0, none⟩), .int .i64 i, .string y] w fun e w' => e = .returned (.bool false) ∧ After o w t ls m w' := by
  have HH := (h.alloc (.cells #[.string y] 9)).has hl i 0 hi
  rw [show decide (0 ≤ i ∧ (0 : Int) ≤ 0 ∧ 0 ≤ (ls.length : Int) - i) = false by simp; omega] at HH
  have HF : Hid (∀ q, After o w t ls m ((w.alloc (.cells #[.string y] 9)).drewN q)) := fun q => ⟨o, (h.alloc _).drewN q, ((Keeps.refl o w).alloc _).drewN' q⟩
  clear h hno
  go_enter Try.func25, Try.ntmps25
  go_wp2_with (go_at_call 28; refine HH.mono ?_; rintro e w1 ⟨rfl, q, rfl⟩)
  go_ret
  exact ⟨rfl, HF.out _⟩
theorem insert_ok (h : Tr o w t ls m) (hl : ls.length < 2 ^ 38) (hm : m < 70000000) {y : ByteArray} (hb : sizes ls + y.size < 2 ^ 62) {i : Nat} (hi : i ≤ ls.length) :
    Calls Try.prog 25 #[.pointer (some ⟨t, 0, none⟩), .int .i64 i, .string y] w fun e w' => e = .returned (.bool true) ∧ After o w t (ls.take i ++ y :: ls.drop i) (m + 22) w' := by
  have HH := (h.alloc (.cells #[.string y] 9)).has hl i 0 (by omega)
  rw [show decide (0 ≤ (i : Int) ∧ (0 : Int) ≤ 0 ∧ 0 ≤ (ls.length : Int) - i) = true by simp; omega] at HH
  have HF : Hid (∀ q, Leaves 33 #[.pointer (some ⟨t, 0, none⟩), .int .i64 i, .func (.func 37) #[] #[.pointer (some ⟨w.heap.size, 0, none⟩)]] ((w.alloc (.cells #[.string y] 9)).drewN q) fun w' => After o w t (ls.take i ++ y :: ls.drop i) (m + 22) w') := by
    intro q
    have h1 := (h.alloc (.cells #[.string y] 9)).drewN q
    refine Calls.mono (h1.change (.ins y) 37 #[.pointer (some ⟨w.heap.size, 0, none⟩)] Try.func37 (by kernel_rfl) (by kernel_rfl) hi (does_ins ?_) hl hb hm) ?_
    · have := cell_at (alloc_new w (.cells #[.string y] 9)) 0
      simp only [World.cell?, drewN_heap] at this ⊢; exact this
    · rintro e w' ⟨rfl, o', q1, q2⟩
      exact ⟨rfl, o', q1, (((Keeps.refl o w).alloc _).drewN' q).trans q2⟩
  clear h
  go_enter Try.func25, Try.ntmps25
  go_wp2_with (first | (go_at_call 28; refine HH.mono ?_; rintro e w1 ⟨rfl, q, rfl⟩) | (go_at_call 33; refine Calls.mono (HF.out _) ?_; rintro e w2 ⟨rfl, HQ⟩))
  go_ret
  exact ⟨rfl, HQ⟩
theorem set_no (h : Tr o w t ls m) (hl : ls.length < 2 ^ 38) {y : ByteArray} (i : Int) (hi : -9223372036854775808 ≤ i ∧ i ≤ 9223372036854775807) (hno : ¬ (0 ≤ i ∧ i < ls.length)) :
    Calls Try.prog 19 #[.pointer (some ⟨t, 0, none⟩), .int .i64 i, .string y] w fun e w' => e = .returned (.bool false) ∧ After o w t ls m w' := by
  have HH := (h.alloc (.cells #[.string y] 9)).has hl i 1 hi
  rw [show decide (0 ≤ i ∧ (0 : Int) ≤ 1 ∧ 1 ≤ (ls.length : Int) - i) = false by simp; omega] at HH
  have HF : Hid (∀ q, After o w t ls m ((w.alloc (.cells #[.string y] 9)).drewN q)) := fun q => ⟨o, (h.alloc _).drewN q, ((Keeps.refl o w).alloc _).drewN' q⟩
  clear h hno
  go_enter Try.func19, Try.ntmps19
  go_wp2_with (go_at_call 28; refine HH.mono ?_; rintro e w1 ⟨rfl, q, rfl⟩)
  go_ret
  exact ⟨rfl, HF.out _⟩
theorem set_ok (h : Tr o w t ls m) (hl : ls.length < 2 ^ 38) (hm : m < 70000000) {y : ByteArray} (hb : sizes ls + y.size < 2 ^ 62) {i : Nat} (hi : i < ls.length) :
    Calls Try.prog 19 #[.pointer (some ⟨t, 0, none⟩), .int .i64 i, .string y] w fun e w' => e = .returned (.bool true) ∧ After o w t (ls.set i y) (m + 22) w' := by
  have HH := (h.alloc (.cells #[.string y] 9)).has hl i 1 (by omega)
  rw [show decide (0 ≤ (i : Int) ∧ (0 : Int) ≤ 1 ∧ 1 ≤ (ls.length : Int) - i) = true by simp; omega] at HH
  have HF : Hid (∀ q, Leaves 33 #[.pointer (some ⟨t, 0, none⟩), .int .i64 i, .func (.func 36) #[] #[.pointer (some ⟨w.heap.size, 0, none⟩)]] ((w.alloc (.cells #[.string y] 9)).drewN q) fun w' => After o w t (ls.set i y) (m + 22) w') := by
    intro q
    have h1 := (h.alloc (.cells #[.string y] 9)).drewN q
    refine Calls.mono (h1.change (.set y) 36 #[.pointer (some ⟨w.heap.size, 0, none⟩)] Try.func36 (by kernel_rfl) (by kernel_rfl) hi (does_set ?_) hl hb hm) ?_
    · have := cell_at (alloc_new w (.cells #[.string y] 9)) 0
      simp only [World.cell?, drewN_heap] at this ⊢; exact this
    · rintro e w' ⟨rfl, o', q1, q2⟩
      exact ⟨rfl, o', q1, (((Keeps.refl o w).alloc _).drewN' q).trans q2⟩
  clear h
  go_enter Try.func19, Try.ntmps19
  go_wp2_with (first | (go_at_call 28; refine HH.mono ?_; rintro e w1 ⟨rfl, q, rfl⟩) | (go_at_call 33; refine Calls.mono (HF.out _) ?_; rintro e w2 ⟨rfl, HQ⟩))
  go_ret
  exact ⟨rfl, HQ⟩
theorem delete_no (h : Tr o w t ls m) (hl : ls.length < 2 ^ 38) (i : Int) (hi : -9223372036854775808 ≤ i ∧ i ≤ 9223372036854775807) (hno : ¬ (0 ≤ i ∧ i < ls.length)) :
    Calls Try.prog 17 #[.pointer (some ⟨t, 0, none⟩), .int .i64 i] w fun e w' => e = .returned (.bool false) ∧ After o w t ls m w' := by
  have HH := h.has hl i 1 hi
  rw [show decide (0 ≤ i ∧ (0 : Int) ≤ 1 ∧ 1 ≤ (ls.length : Int) - i) = false by simp; omega] at HH
  have HF : Hid (∀ q, After o w t ls m (w.drewN q)) := fun q => After.same h q
  clear h hno
  go_enter Try.func17, Try.ntmps17
  go_wp2_with (go_at_call 28; refine HH.mono ?_; rintro e w1 ⟨rfl, q, rfl⟩)
  go_ret
  exact ⟨rfl, HF.out _⟩
theorem delete_ok (h : Tr o w t ls m) (hl : ls.length < 2 ^ 38) (hm : m < 70000000) (hb : sizes ls < 2 ^ 62) {i : Nat} (hi : i < ls.length) :
    Calls Try.prog 17 #[.pointer (some ⟨t, 0, none⟩), .int .i64 i] w fun e w' => e = .returned (.bool true) ∧ After o w t (ls.take i ++ ls.drop (i + 1)) (m + 22) w' := by
  have HH := h.has hl i 1 (by omega)
  rw [show decide (0 ≤ (i : Int) ∧ (0 : Int) ≤ 1 ∧ 1 ≤ (ls.length : Int) - i) = true by simp; omega] at HH
  have HF : Hid (∀ q, Leaves 33 #[.pointer (some ⟨t, 0, none⟩), .int .i64 i, .func (.func 34) #[] #[]] (w.drewN q) fun w' => After o w t (ls.take i ++ ls.drop (i + 1)) (m + 22) w') := by
    intro q
    refine Calls.mono ((h.drewN q).change .del 34 #[] Try.func34 (by kernel_rfl) (by kernel_rfl) hi does_del hl hb hm) ?_
    rintro e w' ⟨rfl, o', q1, q2⟩
    exact ⟨rfl, o', q1, (Keeps.drewN o w q).trans q2⟩
  clear h
  go_enter Try.func17, Try.ntmps17
  go_wp2_with (first | (go_at_call 28; refine HH.mono ?_; rintro e w1 ⟨rfl, q, rfl⟩) | (go_at_call 33; refine Calls.mono (HF.out _) ?_; rintro e w2 ⟨rfl, HQ⟩))
  go_ret
  exact ⟨rfl, HQ⟩
end
end Go.Proofs.Ytfnhbjokokjhfab
