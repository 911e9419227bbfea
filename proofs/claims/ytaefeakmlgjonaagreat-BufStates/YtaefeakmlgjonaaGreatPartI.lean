/- Texts that the proof of the law stands on: TzApi1, TzSplice, TzNew, TzGet, TzPart, TzPieces, TzPart2, MzMB, MzMM. -/
import Derived.Test.YtaefeakmlgjonaaGreatPartH
import Derived.OwnWalk
import Derived.Test.YtaefeakmlgjonaaGreatProg
import Derived.Test.YtaefeakmlgjonaaGreatChecked
import Derived.Maps.RangeWalk
import Derived.Maps.Ext
import Derived.WalkKit
import Derived.ProofKit
import Derived.OpenShut
import Derived.Maps.AppendAt
import Derived.Deep.AppendLies
import Derived.Laws.IdiomStrings
import Derived.Laws.EntriesVeiled
import Derived.WalkSmall
import Derived.BigCall
import Derived.BigQuiet
import Derived.BigRegion
import Derived.Deep.QuietTactic
import Derived.Below
import Derived.LoopTactic
import Derived.RegionTactic
import Derived.Deep.RegionLaw
import Derived.Deep.RegionWith
import Derived.Deep.MidRow
import Derived.Laws.AppendOwn
import Derived.WalkLawsBesides
import Derived.Deep.Cut
import Derived.Deep.CutRange
import Derived.Laws.AppendOwnNone
import Derived.Laws.Concat
/- The tree's calls Insert, Delete, Set, of lines. -/
namespace Go.Proofs.YtaefeakmlgjonaaGreat.Tz
set_option maxRecDepth 100000
open Go.ChangeShapes Go.WideShapes Go.ChangeAt Go.RowKit
/-- At block 't' lies a tree of the lines 'ls', of at most 'm' nodes. -/
def Tr (o : Own) (w : World) (t : Nat) (ls : List ByteArray) (m : Nat) : Prop := ∃ s vn vg d, Rep o w t s vn vg ∧ Inv s d ls ∧ s.ns.length ≤ m
def After (o : Own) (w : World) (t : Nat) (ls : List ByteArray) (m : Nat) (w' : World) : Prop := ∃ o', Tr o' w' t ls m ∧ Keeps o o' w w'
section
variable {o : Own} {w : World} {t m : Nat} {ls : List ByteArray}
theorem Tr.heap (h : Tr o w t ls m) {w' : World} (he : w'.heap = w.heap) : Tr o w' t ls m := by
  obtain ⟨s, vn, vg, d, h1, h2, h3⟩ := h
  exact ⟨s, vn, vg, d, h1.heap he, h2, h3⟩
theorem Tr.drewN (h : Tr o w t ls m) (q : Nat) : Tr o (w.drewN q) t ls m := h.heap (drewN_heap w q)
theorem Tr.alloc (h : Tr o w t ls m) (ob : Obj) : Tr o (w.alloc ob) t ls m := by
  obtain ⟨s, vn, vg, d, h1, h2, h3⟩ := h
  exact ⟨s, vn, vg, d, h1.alloc ob, h2, h3⟩
theorem Tr.mono (h : Tr o w t ls m) {m' : Nat} (hm : m ≤ m') : Tr o w t ls m' := by
  obtain ⟨s, vn, vg, d, h1, h2, h3⟩ := h
  exact ⟨s, vn, vg, d, h1, h2, by omega⟩
theorem Tr.lt (h : Tr o w t ls m) : ∀ k, o k ≠ .free → k < w.heap.size := by
  obtain ⟨s, vn, vg, d, h1, h2, h3⟩ := h
  exact h1.lt
theorem Tr.new (h : Tr o w t ls m) {k : Nat} (hk : w.heap.size ≤ k) : o k = .free := by
  obtain ⟨s, vn, vg, d, h1, h2, h3⟩ := h
  exact h1.free_new hk
theorem After.same (h : Tr o w t ls m) (q : Nat) : After o w t ls m (w.drewN q) := ⟨o, h.drewN q, Keeps.drewN o w q⟩
theorem Inv.top {s : St} {d : Nat} (h : Inv s d ls) : ∃ n, s.ns[s.top]? = some n ∧ n.count = ls.length ∧ n.bytes = sizes ls := by
  obtain ⟨js, hs, _⟩ := h; exact hs.node
theorem Tr.len (h : Tr o w t ls m) : Calls Tryz.prog 52 #[.pointer (some ⟨t, 0, none⟩)] w fun e w' => e = .returned (.int .i64 ls.length) ∧ ∃ q, w' = w.drewN q := by
  obtain ⟨s, vn, vg, d, h1, h2, h3⟩ := h
  obtain ⟨n, hn, hc, hb⟩ := h2.top
  rw [← hc]; exact len_any h1 hn
theorem Tr.has (h : Tr o w t ls m) (hl : ls.length < 2 ^ 38) (i n : Int) (hi : -9223372036854775808 ≤ i ∧ i ≤ 9223372036854775807) :
    Calls Tryz.prog 93 #[.pointer (some ⟨t, 0, none⟩), .int .i64 i, .int .i64 n] w fun e w' => e = .returned (.bool (decide (0 ≤ i ∧ 0 ≤ n ∧ n ≤ (ls.length : Int) - i))) ∧ ∃ q, w' = w.drewN q := by
  obtain ⟨s, vn, vg, d, h1, h2, h3⟩ := h
  obtain ⟨nd, hn, hc, hb⟩ := h2.top
  rw [← hc]; exact has_any h1 hn (by omega) i n hi
theorem Tr.change (h : Tr o w t ls m) (e : Edit) (f : FuncId) (caps : Array Value) {fn : Func} (hf : Tryz.prog.funcs[f]? = some fn) (hnm : (fn.name == "runtime.NumGoroutine") = false) (hbd : fn.body.isNone = false) {i : Nat} (hok : e.ok ls.length i) (hdo : Does f caps e o w) (hb1 : ls.length < 2 ^ 38) (hb2 : sizes ls + e.more < 2 ^ 62) (hm : m < 280000000) :
    Leaves 174 #[.pointer (some ⟨t, 0, none⟩), .int .i64 i, .func (.func f) #[] caps] w fun w' => After o w t (e.run ls i) (m + 22) w' := by
  obtain ⟨s, vn, vg, d, h1, h2, h3⟩ := h
  refine Calls.mono (change_any h1 h2 e f caps hf hnm hbd hok hdo hb1 hb2 (by omega)) ?_
  rintro ex w' ⟨rfl, s', d', ⟨o', vn', vg', q1, q2⟩, q3, q4⟩
  exact ⟨rfl, o', ⟨s', vn', vg', d', q1, q3, by omega⟩, q2⟩

theorem does_ins {lb : Nat} {y : ByteArray} (hy : w.cell? ⟨lb, 0, none⟩ = some (.string y)) : Does 178 #[.pointer (some ⟨lb, 0, none⟩)] (.ins y) o w := by
  intro W hW g v l k hg hr hlt hok hlen
  have hy' : W.cell? ⟨lb, 0, none⟩ = some (.string y) := by rw [← hy]; simp [World.cell?, hW]
  exact insertF_any hr hlt hg hok hlen hy'
theorem does_set {lb : Nat} {y : ByteArray} (hy : w.cell? ⟨lb, 0, none⟩ = some (.string y)) : Does 175 #[.pointer (some ⟨lb, 0, none⟩)] (.set y) o w := by
  intro W hW g v l k hg hr hlt hok hlen
  have hy' : W.cell? ⟨lb, 0, none⟩ = some (.string y) := by rw [← hy]; simp [World.cell?, hW]
  exact setF_any hr hlt hok hy'
theorem does_del : Does 176 #[] .del o w := by
  intro W hW g v l k hg hr hlt hok hlen
  exact deleteF_any hr hlt hg hok hlen

theorem insert_no (h : Tr o w t ls m) (hl : ls.length < 2 ^ 38) {y : ByteArray} (i : Int) (hi : -9223372036854775808 ≤ i ∧ i ≤ 9223372036854775807) (hno : ¬ (0 ≤ i ∧ i ≤ ls.length)) :
    Calls Tryz.prog 150 #[.pointer (some ⟨t, 0, none⟩), .int .i64 i, .string y] w fun e w' => e = .returned (.bool false) ∧ After o w t ls m w' := by
  have HH := (h.alloc (.cells #[.string y] 9)).has hl i 0 hi
  rw [show decide (0 ≤ i ∧ (0 : Int) ≤ 0 ∧ 0 ≤ (ls.length : Int) - i) = false by simp; omega] at HH
  have HF : Hid (∀ q, After o w t ls m ((w.alloc (.cells #[.string y] 9)).drewN q)) := fun q => ⟨o, (h.alloc _).drewN q, ((Keeps.refl o w).alloc _).drewN' q⟩
  clear h hno
  go_enter Tryz.func150, Tryz.ntmps150
  go_wp2_with (go_at_call 93; refine HH.mono ?_; rintro e w1 ⟨rfl, q, rfl⟩)
  go_ret
  exact ⟨rfl, HF.out _⟩
theorem insert_ok (h : Tr o w t ls m) (hl : ls.length < 2 ^ 38) (hm : m < 280000000) {y : ByteArray} (hb : sizes ls + y.size < 2 ^ 62) {i : Nat} (hi : i ≤ ls.length) :
    Calls Tryz.prog 150 #[.pointer (some ⟨t, 0, none⟩), .int .i64 i, .string y] w fun e w' => e = .returned (.bool true) ∧ After o w t (ls.take i ++ y :: ls.drop i) (m + 22) w' := by
  have HH := (h.alloc (.cells #[.string y] 9)).has hl i 0 (by omega)
  rw [show decide (0 ≤ (i : Int) ∧ (0 : Int) ≤ 0 ∧ 0 ≤ (ls.length : Int) - i) = true by simp; omega] at HH
  have HF : Hid (∀ q, Leaves 174 #[.pointer (some ⟨t, 0, none⟩), .int .i64 i, .func (.func 178) #[] #[.pointer (some ⟨w.heap.size, 0, none⟩)]] ((w.alloc (.cells #[.string y] 9)).drewN q) fun w' => After o w t (ls.take i ++ y :: ls.drop i) (m + 22) w') := by
    intro q
    have h1 := (h.alloc (.cells #[.string y] 9)).drewN q
    refine Calls.mono (h1.change (.ins y) 178 #[.pointer (some ⟨w.heap.size, 0, none⟩)] Tryz.func178 (by kernel_rfl) (by kernel_rfl) hi (does_ins ?_) hl hb hm) ?_
    · have := cell_at (alloc_new w (.cells #[.string y] 9)) 0
      simp only [World.cell?, drewN_heap] at this ⊢; exact this
    · rintro e w' ⟨rfl, o', q1, q2⟩
      exact ⟨rfl, o', q1, (((Keeps.refl o w).alloc _).drewN' q).trans q2⟩
  clear h
  go_enter Tryz.func150, Tryz.ntmps150
  go_wp2_with (first | (go_at_call 93; refine HH.mono ?_; rintro e w1 ⟨rfl, q, rfl⟩) | (go_at_call 174; refine Calls.mono (HF.out _) ?_; rintro e w2 ⟨rfl, HQ⟩))
  go_ret
  exact ⟨rfl, HQ⟩
theorem set_no (h : Tr o w t ls m) (hl : ls.length < 2 ^ 38) {y : ByteArray} (i : Int) (hi : -9223372036854775808 ≤ i ∧ i ≤ 9223372036854775807) (hno : ¬ (0 ≤ i ∧ i < ls.length)) :
    Calls Tryz.prog 148 #[.pointer (some ⟨t, 0, none⟩), .int .i64 i, .string y] w fun e w' => e = .returned (.bool false) ∧ After o w t ls m w' := by
  have HH := (h.alloc (.cells #[.string y] 9)).has hl i 1 hi
  rw [show decide (0 ≤ i ∧ (0 : Int) ≤ 1 ∧ 1 ≤ (ls.length : Int) - i) = false by simp; omega] at HH
  have HF : Hid (∀ q, After o w t ls m ((w.alloc (.cells #[.string y] 9)).drewN q)) := fun q => ⟨o, (h.alloc _).drewN q, ((Keeps.refl o w).alloc _).drewN' q⟩
  clear h hno
  go_enter Tryz.func148, Tryz.ntmps148
  go_wp2_with (go_at_call 93; refine HH.mono ?_; rintro e w1 ⟨rfl, q, rfl⟩)
  go_ret
  exact ⟨rfl, HF.out _⟩
theorem set_ok (h : Tr o w t ls m) (hl : ls.length < 2 ^ 38) (hm : m < 280000000) {y : ByteArray} (hb : sizes ls + y.size < 2 ^ 62) {i : Nat} (hi : i < ls.length) :
    Calls Tryz.prog 148 #[.pointer (some ⟨t, 0, none⟩), .int .i64 i, .string y] w fun e w' => e = .returned (.bool true) ∧ After o w t (ls.set i y) (m + 22) w' := by
  have HH := (h.alloc (.cells #[.string y] 9)).has hl i 1 (by omega)
  rw [show decide (0 ≤ (i : Int) ∧ (0 : Int) ≤ 1 ∧ 1 ≤ (ls.length : Int) - i) = true by simp; omega] at HH
  have HF : Hid (∀ q, Leaves 174 #[.pointer (some ⟨t, 0, none⟩), .int .i64 i, .func (.func 175) #[] #[.pointer (some ⟨w.heap.size, 0, none⟩)]] ((w.alloc (.cells #[.string y] 9)).drewN q) fun w' => After o w t (ls.set i y) (m + 22) w') := by
    intro q
    have h1 := (h.alloc (.cells #[.string y] 9)).drewN q
    refine Calls.mono (h1.change (.set y) 175 #[.pointer (some ⟨w.heap.size, 0, none⟩)] Tryz.func175 (by kernel_rfl) (by kernel_rfl) hi (does_set ?_) hl hb hm) ?_
    · have := cell_at (alloc_new w (.cells #[.string y] 9)) 0
      simp only [World.cell?, drewN_heap] at this ⊢; exact this
    · rintro e w' ⟨rfl, o', q1, q2⟩
      exact ⟨rfl, o', q1, (((Keeps.refl o w).alloc _).drewN' q).trans q2⟩
  clear h
  go_enter Tryz.func148, Tryz.ntmps148
  go_wp2_with (first | (go_at_call 93; refine HH.mono ?_; rintro e w1 ⟨rfl, q, rfl⟩) | (go_at_call 174; refine Calls.mono (HF.out _) ?_; rintro e w2 ⟨rfl, HQ⟩))
  go_ret
  exact ⟨rfl, HQ⟩
theorem delete_no (h : Tr o w t ls m) (hl : ls.length < 2 ^ 38) (i : Int) (hi : -9223372036854775808 ≤ i ∧ i ≤ 9223372036854775807) (hno : ¬ (0 ≤ i ∧ i < ls.length)) :
    Calls Tryz.prog 149 #[.pointer (some ⟨t, 0, none⟩), .int .i64 i] w fun e w' => e = .returned (.bool false) ∧ After o w t ls m w' := by
  have HH := h.has hl i 1 hi
  rw [show decide (0 ≤ i ∧ (0 : Int) ≤ 1 ∧ 1 ≤ (ls.length : Int) - i) = false by simp; omega] at HH
  have HF : Hid (∀ q, After o w t ls m (w.drewN q)) := fun q => After.same h q
  clear h hno
  go_enter Tryz.func149, Tryz.ntmps149
  go_wp2_with (go_at_call 93; refine HH.mono ?_; rintro e w1 ⟨rfl, q, rfl⟩)
  go_ret
  exact ⟨rfl, HF.out _⟩
theorem delete_ok (h : Tr o w t ls m) (hl : ls.length < 2 ^ 38) (hm : m < 280000000) (hb : sizes ls < 2 ^ 62) {i : Nat} (hi : i < ls.length) :
    Calls Tryz.prog 149 #[.pointer (some ⟨t, 0, none⟩), .int .i64 i] w fun e w' => e = .returned (.bool true) ∧ After o w t (ls.take i ++ ls.drop (i + 1)) (m + 22) w' := by
  have HH := h.has hl i 1 (by omega)
  rw [show decide (0 ≤ (i : Int) ∧ (0 : Int) ≤ 1 ∧ 1 ≤ (ls.length : Int) - i) = true by simp; omega] at HH
  have HF : Hid (∀ q, Leaves 174 #[.pointer (some ⟨t, 0, none⟩), .int .i64 i, .func (.func 176) #[] #[]] (w.drewN q) fun w' => After o w t (ls.take i ++ ls.drop (i + 1)) (m + 22) w') := by
    intro q
    refine Calls.mono ((h.drewN q).change .del 176 #[] Tryz.func176 (by kernel_rfl) (by kernel_rfl) hi does_del hl hb hm) ?_
    rintro e w' ⟨rfl, o', q1, q2⟩
    exact ⟨rfl, o', q1, (Keeps.drewN o w q).trans q2⟩
  clear h
  go_enter Tryz.func149, Tryz.ntmps149
  go_wp2_with (first | (go_at_call 93; refine HH.mono ?_; rintro e w1 ⟨rfl, q, rfl⟩) | (go_at_call 174; refine Calls.mono (HF.out _) ?_; rintro e w2 ⟨rfl, HQ⟩))
  go_ret
  exact ⟨rfl, HQ⟩
end
end Go.Proofs.YtaefeakmlgjonaaGreat.Tz
/- The tree's calls Splice and New. -/
namespace Go.Proofs.YtaefeakmlgjonaaGreat.Tz
open Go.ChangeShapes Go.WideShapes Go.ChangeAt Go.RowKit
set_option linter.unusedVariables false
set_option maxRecDepth 100000
/-- The slice 'v' has the lines 'ms', in memory that is no tree's. -/
def Lies (o : Own) (w : World) (v : Value) (ms : List ByteArray) : Prop :=
  ∃ a cap, v = .slice a ms.length cap ∧ ms.length ≤ cap ∧ cap ≤ maxLen ∧ (ms = [] ∨ ∃ b off, a = some ⟨b, off, none⟩ ∧ b < w.heap.size ∧ o b = .free ∧ ∀ (j : Nat) y, ms[j]? = some y → w.cell? ⟨b, off + j, none⟩ = some (.string y))
theorem Lies.keeps {o o' : Own} {w w' : World} {v : Value} {ms : List ByteArray} (h : Lies o w v ms) (k : Keeps o o' w w') : Lies o' w' v ms := by
  obtain ⟨a, cap, h1, h2, h3, h | ⟨b, off, h4, h5, h6, h7⟩⟩ := h
  · exact ⟨a, cap, h1, h2, h3, .inl h⟩
  · refine ⟨a, cap, h1, h2, h3, .inr ⟨b, off, h4, Nat.lt_of_lt_of_le h5 k.size, k.own b h5 h6, fun j y hj => ?_⟩⟩
    have := h7 j y hj
    simp only [World.cell?, k.block b h5 h6] at this ⊢; exact this
theorem Lies.form {o : Own} {w : World} {v : Value} {ms : List ByteArray} (h : Lies o w v ms) : ∃ a cap, v = .slice a ms.length cap ∧ ms.length ≤ cap ∧ cap ≤ maxLen := by
  obtain ⟨a, cap, h1, h2, h3, _⟩ := h
  exact ⟨a, cap, h1, h2, h3⟩
theorem Lies.cell {o : Own} {w : World} {a : Option Addr} {n cap : Nat} {ms : List ByteArray} (h : Lies o w (.slice a n cap) ms) {j : Nat} {y : ByteArray} (hj : ms[j]? = some y) : ∃ b off, a = some ⟨b, off, none⟩ ∧ w.cell? ⟨b, off + j, none⟩ = some (.string y) := by
  obtain ⟨a', cap', h1, h2, h3, h | ⟨b, off, h4, h5, h6, h7⟩⟩ := h
  · subst h; cases hj
  · injection h1 with h1 _ _; exact ⟨b, off, h1.trans h4, h7 j y hj⟩
theorem Lies.own {o o' : Own} {w : World} {v : Value} {ms : List ByteArray} (h : Lies o w v ms) (ho : ∀ b, b < w.heap.size → o b = .free → o' b = .free) : Lies o' w v ms := by
  obtain ⟨a, cap, h1, h2, h3, h | ⟨b, off, h4, h5, h6, h7⟩⟩ := h
  · exact ⟨a, cap, h1, h2, h3, .inl h⟩
  · exact ⟨a, cap, h1, h2, h3, .inr ⟨b, off, h4, h5, ho b h5 h6, h7⟩⟩
theorem lies_nil {o : Own} {w : World} : Lies o w (.slice none 0 0) [] := ⟨none, 0, rfl, by simp, by simp [maxLen], .inl rfl⟩

def mix (ls ms : List ByteArray) (i a b : Nat) : List ByteArray := ls.take i ++ (ms.take a ++ ls.drop b)
section
variable {ls ms : List ByteArray} {i a b : Nat}
theorem mix_len (hi : i ≤ ls.length) (ha : a ≤ ms.length) : (mix ls ms i a b).length = i + a + (ls.length - b) := by simp [mix]; omega
theorem mix_sizes (hb : i ≤ b) : sizes (mix ls ms i a b) ≤ sizes ls + sizes (ms.take a) := by
  simp only [mix, sizes_app]
  have h1 := sizes_cut ls i
  have h2 := sizes_drop (ls.drop i) (b - i)
  rw [List.drop_drop, show i + (b - i) = b by omega] at h2
  omega
theorem mix_set {x : ByteArray} (hi : i ≤ ls.length) (hx : ms[a]? = some x) (hb : b < ls.length) : (mix ls ms i a b).set (i + a) x = mix ls ms i (a + 1) (b + 1) := by
  have ha := (List.getElem?_eq_some_iff.1 hx).1
  have e : ms.take (a + 1) = ms.take a ++ [x] := by
    obtain ⟨_, e⟩ := List.getElem?_eq_some_iff.1 hx
    rw [List.take_succ_eq_append_getElem ha, e]
  have l1 : (ls.take i).length = i := by simp; omega
  have l2 : (ms.take a).length = a := by simp; omega
  simp only [mix]
  rw [List.set_append_right _ _ (by omega), l1, Nat.add_sub_cancel_left, List.set_append_right _ _ (by omega), l2, Nat.sub_self, e, List.drop_eq_getElem_cons hb, List.set_cons_zero]
  simp
theorem mix_del (hi : i ≤ ls.length) (ha : a ≤ ms.length) (hb : b < ls.length) : (mix ls ms i a b).take (i + a) ++ (mix ls ms i a b).drop (i + a + 1) = mix ls ms i a (b + 1) := by
  have l1 : (ls.take i ++ ms.take a).length = i + a := by simp; omega
  simp only [mix]
  rw [← List.append_assoc, ← List.append_assoc, ← l1, List.take_left, List.drop_length_add_append, List.drop_drop]
theorem mix_ins {x : ByteArray} (hi : i ≤ ls.length) (hx : ms[a]? = some x) : (mix ls ms i a b).take (i + a) ++ x :: (mix ls ms i a b).drop (i + a) = mix ls ms i (a + 1) b := by
  have ha := (List.getElem?_eq_some_iff.1 hx).1
  have e : ms.take (a + 1) = ms.take a ++ [x] := by
    obtain ⟨_, e⟩ := List.getElem?_eq_some_iff.1 hx
    rw [List.take_succ_eq_append_getElem ha, e]
  have l1 : (ls.take i ++ ms.take a).length = i + a := by simp; omega
  simp only [mix]
  rw [← List.append_assoc, ← l1, List.take_left, List.drop_left, e]; simp
end
section
variable {o : Own} {w : World} {t m : Nat} {ls ms : List ByteArray}
theorem splice_no (h : Tr o w t ls m) (hl : ls.length < 2 ^ 38) {v : Value} (i n : Int) (hi : -9223372036854775808 ≤ i ∧ i ≤ 9223372036854775807) (hno : ¬ (0 ≤ i ∧ 0 ≤ n ∧ n ≤ (ls.length : Int) - i)) :
    Calls Tryz.prog 118 #[.pointer (some ⟨t, 0, none⟩), .int .i64 i, .int .i64 n, v] w fun e w' => e = .returned (.bool false) ∧ After o w t ls m w' := by
  have HH := h.has hl i n hi
  rw [show decide (0 ≤ i ∧ 0 ≤ n ∧ n ≤ (ls.length : Int) - i) = false by simpa using hno] at HH
  have HF : Hid (∀ q, After o w t ls m (w.drewN q)) := fun q => After.same h q
  clear h hno
  go_enter Tryz.func118, Tryz.ntmps118
  go_wp2_with (go_at_call 93; refine HH.mono ?_; rintro e w1 ⟨rfl, q, rfl⟩)
  go_ret
  exact ⟨rfl, HF.out _⟩
set_option maxHeartbeats 2000000 in
theorem splice_ok (h : Tr o w t ls m) {v : Value} (hv : Lies o w v ms) {i n : Nat} (hin : i + n ≤ ls.length) (hl : ls.length + ms.length < 2 ^ 37) (hm : m + 22 * (n + ms.length) < 280000000) (hb : sizes ls + sizes ms < 2 ^ 62) :
    Calls Tryz.prog 118 #[.pointer (some ⟨t, 0, none⟩), .int .i64 i, .int .i64 n, v] w fun e w' => e = .returned (.bool true) ∧ After o w t (mix ls ms i ms.length (i + n)) (m + 22 * (n + ms.length)) w' := by
  have HH := h.has (by omega) i n (by omega)
  rw [show decide (0 ≤ (i : Int) ∧ (0 : Int) ≤ n ∧ n ≤ (ls.length : Int) - i) = true by simp; omega] at HH
  obtain ⟨a, cap, rfl, c1, c2⟩ := hv.form
  have HT : Hid (Tr o w t ls m) := h
  have HV : Hid (Lies o w (.slice a ms.length cap) ms) := hv
  have HM : Hid (sizes ls + sizes ms < 2 ^ 62) := hb
  unfold maxLen at c2
  obtain ⟨L, hL⟩ : ∃ L, ms.length = L := ⟨_, rfl⟩
  obtain ⟨K, hK⟩ : ∃ K, ls.length = K := ⟨_, rfl⟩
  have GL : Hid (ms.length = L ∧ ls.length = K) := ⟨hL, hK⟩
  rw [hL] at hl hm c1 HV ⊢
  rw [hK] at hl hin
  clear h hv hb hL hK
  obtain ⟨B, hB⟩ : ∃ B : Nat, B = min n L := ⟨_, rfl⟩
  have hmin : min (n : Int) (L : Int) = (B : Int) := by omega
  have hBn : B ≤ n := by omega
  have hBL : B ≤ L := by omega
  have HB : Hid (B = n ∨ B = L) := by show B = n ∨ B = L; omega
  clear hB
  go_enter Tryz.func118, Tryz.ntmps118
  go_wp2_with (go_at_call 93; refine HH.mono ?_; rintro e w1 ⟨rfl, q, rfl⟩)
  go_loopw [23] (fun vi wr => ∃ (k : Nat) (o1 : Own), k ≤ B ∧ vi = .int .i64 k ∧ Tr o1 wr t (mix ls ms i k (i + k)) (m + 22 * k) ∧ Keeps o o1 w wr) (fun vi _ => B - (intOf vi).toNat)
  case atStart => exact ⟨0, o, Nat.zero_le _, rfl, by simpa [mix] using HT.out.drewN q, Keeps.drewN o w q⟩
  case round =>
    obtain ⟨k, o1, hk, rfl, hT1, hK1⟩ := hrel
    by_cases hlt : k < B
    · have hy : ms[k]? = some (ms[k]'(by have := GL.out.1; omega)) := List.getElem?_eq_getElem _
      generalize ms[k]'(by have := GL.out.1; omega) = y at hy
      obtain ⟨b, off, rfl, hcell⟩ := (HV.out.keeps hK1).cell hy
      have HS : Hid (Calls Tryz.prog 148 #[.pointer (some ⟨t, 0, none⟩), .int .i64 ((i : Int) + (k : Int)), .string y] wr fun e w' => e = .returned (.bool true) ∧ ∃ o2, Tr o2 w' t (mix ls ms i (k + 1) (i + (k + 1))) (m + 22 * (k + 1)) ∧ Keeps o o2 w w') := by
        have hlen : (mix ls ms i k (i + k)).length = K := by rw [mix_len (by rw [GL.out.2]; omega) (by rw [GL.out.1]; omega), GL.out.2]; omega
        have hsz := mix_sizes (ls := ls) (ms := ms) (i := i) (a := k) (b := i + k) (by omega)
        have hs1 := sizes_succ hy
        have hs2 := sizes_take ms (k + 1)
        have hM := HM.out
        have hc := set_ok hT1 (i := i + k) (y := y) (by omega) (by omega) (by omega) (by omega)
        have ek : (((i + k : Nat)) : Int) = (i : Int) + (k : Int) := by omega
        rw [ek, mix_set (by rw [GL.out.2]; omega) hy (by rw [GL.out.2]; omega)] at hc
        refine hc.mono ?_
        rintro e w' ⟨rfl, o2, q1, q2⟩
        exact ⟨rfl, o2, q1.mono (by omega), hK1.trans q2⟩
      clear hT1 hK1 hy HH
      have hd : decide ((k : Int) < (B : Int)) = true := by simp; omega
      have hwr : IntKind.i64.wrap ((i : Int) + (k : Int)) = (i : Int) + (k : Int) := by rw [IntKind.wrap_i64]; omega
      go_wp2_with (go_at_call 148; refine HS.out.mono ?_; rintro e w2 ⟨rfl, HQ⟩)
      go_roundw
      case rel => obtain ⟨o2, q1, q2⟩ := HQ; exact ⟨k + 1, o2, by omega, by go_num, q1, q2⟩
      case measure => simp [intOf]; omega
    · obtain rfl : k = B := by omega
      have hd : decide ((k : Int) < (k : Int)) = false := by simp
      have HT1 : Hid (Tr o1 wr t (mix ls ms i k (i + k)) (m + 22 * k) ∧ Keeps o o1 w wr) := ⟨hT1, hK1⟩
      clear hT1 hK1 HH
      go_wp2_with fail
      go_loopw [39] (fun vi wr2 => ∃ (j : Nat) (o2 : Own), j ≤ n - k ∧ vi = .int .i64 j ∧ Tr o2 wr2 t (mix ls ms i k (i + k + j)) (m + 22 * (k + j)) ∧ Keeps o o2 w wr2) (fun vi _ => n - k - (intOf vi).toNat)
      case atStart => exact ⟨0, o1, Nat.zero_le _, rfl, HT1.out.1, HT1.out.2⟩
      case round =>
        obtain ⟨j, o2, hj, rfl, hT2, hK2⟩ := hrel
        by_cases hlt2 : j < n - k
        · have HS : Hid (Calls Tryz.prog 149 #[.pointer (some ⟨t, 0, none⟩), .int .i64 ((i : Int) + (k : Int))] wr fun e w' => e = .returned (.bool true) ∧ ∃ o3, Tr o3 w' t (mix ls ms i k (i + k + (j + 1))) (m + 22 * (k + (j + 1))) ∧ Keeps o o3 w w') := by
            have hlen : (mix ls ms i k (i + k + j)).length = K - j := by rw [mix_len (by rw [GL.out.2]; omega) (by rw [GL.out.1]; omega), GL.out.2]; omega
            have hsz := mix_sizes (ls := ls) (ms := ms) (i := i) (a := k) (b := i + k + j) (by omega)
            have hs2 := sizes_take ms k
            have hM := HM.out
            have hc := delete_ok hT2 (i := i + k) (by omega) (by omega) (by omega) (by omega)
            have ek : (((i + k : Nat)) : Int) = (i : Int) + (k : Int) := by omega
            rw [ek, mix_del (by rw [GL.out.2]; omega) (by rw [GL.out.1]; omega) (by rw [GL.out.2]; omega)] at hc
            refine hc.mono ?_
            rintro e w' ⟨rfl, o3, q1, q2⟩
            exact ⟨rfl, o3, q1.mono (by omega), hK2.trans q2⟩
          clear hT2 hK2
          have hd2 : decide ((j : Int) < (n : Int) - (k : Int)) = true := by simp; omega
          have hwr : IntKind.i64.wrap ((i : Int) + (k : Int)) = (i : Int) + (k : Int) := by rw [IntKind.wrap_i64]; omega
          go_wp2_with (go_at_call 149; refine HS.out.mono ?_; rintro e w2 ⟨rfl, HQ⟩)
          go_roundw
          case rel => obtain ⟨o3, q1, q2⟩ := HQ; exact ⟨j + 1, o3, by omega, by go_num, q1, q2⟩
          case measure => simp [intOf]; omega
        · obtain rfl : j = n - k := by omega
          have hd2 : decide ((((n - k : Nat)) : Int) < (n : Int) - (k : Int)) = false := by simp; omega
          have HT2 : Hid (Tr o2 wr t (mix ls ms i k (i + n)) (m + 22 * n) ∧ Keeps o o2 w wr) := by
            have e1 : i + k + (n - k) = i + n := by omega
            have e2 : k + (n - k) = n := by omega
            rw [e1, e2] at hT2; exact ⟨hT2, hK2⟩
          clear hT2 hK2
          by_cases hkL : k < L
          · obtain rfl : k = n := by have := HB.out; omega
            have hy0 : ms[k]? = some (ms[k]'(by have := GL.out.1; omega)) := List.getElem?_eq_getElem _
            obtain ⟨b, off, ha, _⟩ := HV.out.cell hy0
            subst ha
            have hne : ¬ (cap = k) := by omega
            clear hy0
            go_wp2_with fail
            go_loopw [51] (fun vi wr2 => ∃ (j : Nat) (o3 : Own), j ≤ L - k ∧ vi = .int .i64 j ∧ Tr o3 wr2 t (mix ls ms i (k + j) (i + k)) (m + 22 * (k + j)) ∧ Keeps o o3 w wr2) (fun vi _ => L - k - (intOf vi).toNat)
            case atStart => exact ⟨0, o2, Nat.zero_le _, rfl, HT2.out.1, HT2.out.2⟩
            case round =>
              obtain ⟨j, o3, hj, rfl, hT3, hK3⟩ := hrel
              by_cases hlt3 : j < L - k
              · have hy : ms[k + j]? = some (ms[k + j]'(by have := GL.out.1; omega)) := List.getElem?_eq_getElem _
                generalize ms[k + j]'(by have := GL.out.1; omega) = y at hy
                obtain ⟨b', off', hab, hcell⟩ := (HV.out.keeps hK3).cell hy
                cases hab
                rw [← Nat.add_assoc] at hcell
                have HS : Hid (Calls Tryz.prog 150 #[.pointer (some ⟨t, 0, none⟩), .int .i64 ((i : Int) + (k : Int) + (j : Int)), .string y] wr fun e w' => e = .returned (.bool true) ∧ ∃ o4, Tr o4 w' t (mix ls ms i (k + (j + 1)) (i + k)) (m + 22 * (k + (j + 1))) ∧ Keeps o o4 w w') := by
                  have hlen : (mix ls ms i (k + j) (i + k)).length = K + j := by rw [mix_len (by rw [GL.out.2]; omega) (by rw [GL.out.1]; omega), GL.out.2]; omega
                  have hsz := mix_sizes (ls := ls) (ms := ms) (i := i) (a := k + j) (b := i + k) (by omega)
                  have hs1 := sizes_succ hy
                  have hs2 := sizes_take ms (k + j + 1)
                  have hM := HM.out
                  have hc := insert_ok hT3 (i := i + (k + j)) (y := y) (by omega) (by omega) (by omega) (by omega)
                  have ek : (((i + (k + j) : Nat)) : Int) = (i : Int) + (k : Int) + (j : Int) := by omega
                  rw [ek, mix_ins (by rw [GL.out.2]; omega) hy] at hc
                  refine hc.mono ?_
                  rintro e w' ⟨rfl, o4, q1, q2⟩
                  exact ⟨rfl, o4, q1.mono (by omega), hK3.trans q2⟩
                clear hT3 hK3 hy
                have hd3 : decide ((j : Int) < (((L - k : Nat)) : Int)) = true := by simp; omega
                have hwr : IntKind.i64.wrap ((i : Int) + (k : Int)) = (i : Int) + (k : Int) := by rw [IntKind.wrap_i64]; omega
                have hwr2 : IntKind.i64.wrap ((i : Int) + (k : Int) + (j : Int)) = (i : Int) + (k : Int) + (j : Int) := by rw [IntKind.wrap_i64]; omega
                go_wp2_with (go_at_call 150; refine HS.out.mono ?_; rintro e w2 ⟨rfl, HQ⟩)
                go_roundw
                case rel => obtain ⟨o4, q1, q2⟩ := HQ; exact ⟨j + 1, o4, by omega, by go_num, q1, q2⟩
                case measure => simp [intOf]; omega
              · obtain rfl : j = L - k := by omega
                have hd3 : decide ((((L - k : Nat)) : Int) < (((L - k : Nat)) : Int)) = false := by simp
                have HT3 : Hid (After o w t (mix ls ms i L (i + k)) (m + 22 * (k + L)) wr) := by
                  have e1 : k + (L - k) = L := by omega
                  rw [e1] at hT3; exact ⟨o3, hT3.mono (by omega), hK3⟩
                clear hT3 hK3
                go_wp2_with fail
                go_ret
                exact ⟨rfl, HT3.out⟩
          · obtain rfl : k = L := by omega
            have HT3 : Hid (After o w t (mix ls ms i k (i + n)) (m + 22 * (n + k)) wr) := ⟨o2, HT2.out.1.mono (by omega), HT2.out.2⟩
            go_wp2_with fail
            all_goals
              go_loopw [51] (fun vi wr2 => vi = .int .i64 0 ∧ After o w t (mix ls ms i k (i + n)) (m + 22 * (n + k)) wr2) (fun _ _ => 0)
              case atStart => exact ⟨rfl, HT3.out⟩
              case round =>
                obtain ⟨rfl, hA⟩ := hrel
                have HA : Hid (After o w t (mix ls ms i k (i + n)) (m + 22 * (n + k)) wr) := hA
                clear hA
                go_wp2_with fail
                go_ret
                exact ⟨rfl, HA.out⟩
end
end Go.Proofs.YtaefeakmlgjonaaGreat.Tz
/- The tree's call New. -/
namespace Go.Proofs.YtaefeakmlgjonaaGreat.Tz
set_option maxRecDepth 100000
open Go.ChangeShapes Go.WideShapes Go.ChangeAt Go.RowKit
def nobody : Own := fun _ => .free
theorem new_any {w : World} {v : Value} {ms : List ByteArray} (hv : Lies nobody w v ms) (hl : ms.length < 1000000) (hb : sizes ms < 2 ^ 62) :
    Calls Tryz.prog 84 #[v] w fun e w' => e = .returned (.pointer (some ⟨w.heap.size, 0, none⟩)) ∧ After nobody w w.heap.size ms (1 + 22 * ms.length) w' := by
  have hr0 : Rep (give nobody w.heap.size .tree) (w.alloc (.cells #[.slice none 0 0, .slice none 0 0, .int .i64 0] 144)) w.heap.size ⟨[], [], 0⟩ (.slice none 0 0) (.slice none 0 0) := by
    refine ⟨by simp [give], alloc_new w _, ⟨World.ownsRow_nil _ _ _ _, fun k hk => by simp [Value.ownBlock] at hk⟩, rnil, fun i n hi => by simp at hi, fun i n hi => by simp at hi, fun k hk => ?_⟩
    by_cases e : k = w.heap.size
    · rw [e]; simp
    · exact absurd (by simp [give, e, nobody]) hk
  have k0 : Keeps nobody (give nobody w.heap.size .tree) w (w.alloc (.cells #[.slice none 0 0, .slice none 0 0, .int .i64 0] 144)) := ((Keeps.refl nobody w).alloc _).give (Nat.le_refl _) _
  have HF := fresh_new hr0 rfl (by simp)
  obtain ⟨a, cap, hva, c1, c2⟩ := hv.form
  have HS : Hid (∀ (o1 : Own) (vn1 : Value) (w1 : World), Rep o1 w1 w.heap.size ⟨[nilNode], [], 0⟩ vn1 (.slice none 0 0) → Keeps (give nobody w.heap.size .tree) o1 (w.alloc (.cells #[.slice none 0 0, .slice none 0 0, .int .i64 0] 144)) w1 →
      Calls Tryz.prog 118 #[.pointer (some ⟨w.heap.size, 0, none⟩), .int .i64 0, .int .i64 0, v] (w1.setCell ⟨w.heap.size, 2, none⟩ (.int .i64 0)) fun e w' => e = .returned (.bool true) ∧ After nobody w w.heap.size ms (1 + 22 * ms.length) w') := by
    intro o1 vn1 w1 h1 k1
    have h2 := h1.storeTop 0
    have k2 : Keeps nobody o1 w (w1.setCell ⟨w.heap.size, 2, none⟩ (.int .i64 ((0 : Nat) : Int))) := (k0.trans k1).setCell (by rw [h1.ot]; simp)
    have hI : Inv ⟨[nilNode], [], 0⟩ 0 [] := ⟨[0], ⟨rfl, .slice none 0 0, rfl⟩, ⟨by simp [List.range_succ], fun g hg => by cases hg⟩, by simp [St.wid, nilNode, Node.wid], fun h => absurd h (by omega)⟩
    have hT : Tr o1 (w1.setCell ⟨w.heap.size, 2, none⟩ (.int .i64 ((0 : Nat) : Int))) w.heap.size [] 1 := ⟨_, _, _, 0, h2, hI, by simp⟩
    have hc := splice_ok hT (hv.keeps k2) (i := 0) (n := 0) (by simp) (by simp; omega) (by omega) (by simp [sizes] at hb ⊢; omega)
    have e1 : mix [] ms 0 ms.length (0 + 0) = ms := by simp [mix]
    rw [e1] at hc
    refine Calls.mono hc ?_
    rintro e w' ⟨rfl, o2, q1, q2⟩
    exact ⟨rfl, o2, q1.mono (by omega), k2.trans q2⟩
  have hfro : ∀ (o1 : Own) (vn1 : Value) (w1 : World), Rep o1 w1 w.heap.size ⟨[nilNode], [], 0⟩ vn1 (.slice none 0 0) → w1.cell? ⟨w.heap.size, 2, none⟩ = some (.int .i64 0) ∧ w1.frozen? ⟨w.heap.size, 2, none⟩ = false := fun o1 vn1 w1 h1 => ⟨h1.at2, h1.atF 2⟩
  have HFR : Hid (∀ (o1 : Own) (vn1 : Value) (w1 : World), Rep o1 w1 w.heap.size ⟨[nilNode], [], 0⟩ vn1 (.slice none 0 0) → w1.cell? ⟨w.heap.size, 2, none⟩ = some (.int .i64 0) ∧ w1.frozen? ⟨w.heap.size, 2, none⟩ = false) := hfro
  clear hr0 k0 hv hfro hva
  go_enter Tryz.func84, Tryz.ntmps84
  go_wp2_with (go_at_call 126; refine HF.mono ?_; rintro e w1 ⟨rfl, o1, vn1, h1, k1⟩; obtain ⟨q1, q2⟩ := HFR.out _ _ _ h1)
  refine (HS.out o1 vn1 w1 h1 k1).mono ?_
  rintro e w2 ⟨rfl, HQ⟩
  go_wp2_with fail
  go_ret
  exact ⟨rfl, HQ⟩
end Go.Proofs.YtaefeakmlgjonaaGreat.Tz
/- The tree's call Get. -/
namespace Go.Proofs.YtaefeakmlgjonaaGreat.Tz
set_option maxRecDepth 100000
open Go.ChangeShapes Go.WideShapes Go.ChangeAt Go.RowKit
theorem All.each {P : Nat → List ByteArray → List Nat → Prop} {cs : List Nat} {ls : List ByteArray} {js : List Nat} (h : All P cs ls js) : ∀ c ∈ cs, ∃ l j, P c l j := by
  induction cs generalizing ls js with
  | nil => intro c hc; cases hc
  | cons c cs ih =>
    obtain ⟨a1, a2, b1, b2, rfl, rfl, hp, hr⟩ := h
    intro x hx
    rcases List.mem_cons.1 hx with rfl | hx
    · exact ⟨_, _, hp⟩
    · exact ih hr x hx
section
variable {o : Own} {w : World} {t m : Nat} {ls : List ByteArray} {s : St} {d a : Nat} {js : List Nat}
theorem Sub.lt (h : Sub s d a ls js) : a < s.ns.length := by
  obtain ⟨n, hn, _⟩ := h.node; exact (List.getElem?_eq_some_iff.1 hn).1
/-- One level down. -/
theorem Sub.down (h : Sub s (d + 1) a ls js) : ∃ n, s.ns[a]? = some n ∧ 0 < n.kids.length ∧ n.kids ≠ [] ∧ (∀ c ∈ n.kids, c < s.ns.length) ∧ s.wid a = n.kids.length ∧ s.cnt a = ls.length ∧
    ∀ k kd, n.kids[k]? = some kd → ∃ lx lc ly jx jc jy, ls = lx ++ (lc ++ ly) ∧ Ok s d kd lc jc ∧ All (Ok s d) (n.kids.take k) lx jx ∧ All (Ok s d) (n.kids.drop (k + 1)) ly jy := by
  have hcn := h.cnt.1
  obtain ⟨u, ks, js', rfl, hn, hp, hA⟩ := h
  have hA : All (Ok s d) ks ls js' := hA
  refine ⟨_, hn, hp, List.ne_nil_of_length_pos hp, fun c hc => ?_, by simp [St.wid, hn, Node.wid], hcn, fun k kd hkd => ?_⟩
  · obtain ⟨l, j, hc⟩ := hA.each c hc; exact hc.1.lt
  · have hkd : ks[k]? = some kd := hkd
    have hks : ks = ks.take k ++ kd :: ks.drop (k + 1) := by
      obtain ⟨_, e1⟩ := List.getElem?_eq_some_iff.1 hkd
      rw [← e1]; simp
    rw [hks] at hA
    obtain ⟨lx, lz, jx, jz, rfl, rfl, hX, hZ⟩ := hA.cut
    obtain ⟨lc, ly, jc, jy, rfl, rfl, hC, hY⟩ := hZ
    exact ⟨lx, lc, ly, jx, jc, jy, rfl, hC, hX, hY⟩
theorem Ok.pos {c : Nat} (h : Ok s d c ls js) : 1 ≤ ls.length := Nat.le_trans (Nat.one_le_pow _ _ (by omega)) h.len
theorem get_no (h : Tr o w t ls m) (hl : ls.length < 2 ^ 38) (i : Int) (hi : -9223372036854775808 ≤ i ∧ i ≤ 9223372036854775807) (hno : ¬ (0 ≤ i ∧ i < ls.length)) :
    Calls Tryz.prog 53 #[.pointer (some ⟨t, 0, none⟩), .int .i64 i] w fun e w' => e = .returned (.tuple #[.string ⟨#[]⟩, .bool false]) ∧ ∃ q, w' = w.drewN q := by
  have HH := h.has hl i 1 hi
  rw [show decide (0 ≤ i ∧ (0 : Int) ≤ 1 ∧ 1 ≤ (ls.length : Int) - i) = false by simp; omega] at HH
  clear h hno
  go_enter Tryz.func53, Tryz.ntmps53
  go_wp2_with (go_at_call 93; refine HH.mono ?_; rintro e w1 ⟨rfl, q, rfl⟩)
  go_ret2
  exact ⟨rfl, _, rfl⟩
theorem get_ok (h : Tr o w t ls m) (hl : ls.length < 2 ^ 38) {i : Nat} {y : ByteArray} (hy : ls[i]? = some y) :
    Calls Tryz.prog 53 #[.pointer (some ⟨t, 0, none⟩), .int .i64 i] w fun e w' => e = .returned (.tuple #[.string y, .bool true]) ∧ ∃ q, w' = w.drewN q := by
  have hil := (List.getElem?_eq_some_iff.1 hy).1
  have HH := h.has hl i 1 (by omega)
  rw [show decide (0 ≤ (i : Int) ∧ (0 : Int) ≤ 1 ∧ 1 ≤ (ls.length : Int) - i) = true by simp; omega] at HH
  obtain ⟨s, vn, vg, d, h1, ⟨js, hs, hf, hw8, hw2⟩, _⟩ := h
  have a2 := h1.at2
  have a0 := h1.at0
  have htl := hs.lt
  obtain ⟨b, cap, hvn, hob, n1, n2, hcc⟩ := h1.nodeCells (by omega)
  clear hcc
  rw [hvn] at a0
  unfold maxLen at n2
  have HR : Hid (Rep o w t s vn vg) := h1
  have GV : Hid (vn = .slice (some ⟨b, 0, none⟩) s.ns.length cap) := hvn
  have HS : Hid (Sub s d s.top ls js ∧ (0 < d → 2 ≤ s.wid s.top) ∧ ls[i]? = some y) := ⟨hs, hw2, hy⟩
  generalize hN : s.ns.length = N at *
  have HN : Hid (s.ns.length = N) := hN
  clear h1 hs hf hw8 hw2 hvn hy hil htl hN hob
  go_enter Tryz.func53, Tryz.ntmps53
  go_wp2_with (go_at_call 93; refine HH.mono ?_; rintro e w1 ⟨rfl, q, rfl⟩)
  go_loopw [1, 6] (fun vi va wr => ∃ (d' a' i' : Nat) (l' : List ByteArray) (j' : List Nat), va = .int .i64 a' ∧ vi = .int .i64 i' ∧ Sub s d' a' l' j' ∧ (0 < d' → 2 ≤ s.wid a') ∧ l'[i']? = some y ∧ l'.length < 2 ^ 38 ∧ ∃ q, wr = w.drewN q) (fun _ va _ => s.cnt (intOf va).toNat)
  case atStart => exact ⟨d, s.top, i, ls, js, rfl, rfl, HS.out.1, HS.out.2.1, HS.out.2.2, hl, q, rfl⟩
  case round =>
    obtain ⟨d', a', i', l', j', rfl, rfl, hs', hw', hy', hl', q', rfl⟩ := hrel
    have hil := (List.getElem?_eq_some_iff.1 hy').1
    cases d' with
    | zero =>
      obtain ⟨rfl, v, hn⟩ := hs'
      have ha : a' < N := by rw [← HN.out]; exact (List.getElem?_eq_some_iff.1 hn).1
      have HL := last_any (HR.out.drewN q') hn
      rw [show decide ((⟨v, .slice none 0 0, l', [], l'.length, sizes l'⟩ : Node).kids = []) = true by simp] at HL
      obtain ⟨zz, c0, c1, c2, c3, cf⟩ := (HR.out.drewN q').cellsAt hn GV.out
      obtain ⟨lb, lc, hvl, _, k1, k2, hkc⟩ := linesCells HR.out hn (by simp) (by show 0 < l'.length; omega)
      have hvl : v = .slice (some ⟨lb, 0, none⟩) l'.length lc := hvl
      subst hvl
      have hcell : w.cell? ⟨lb, i', none⟩ = some (.string y) := (hkc i' y hy').1
      have c0' : w.cell? ⟨b, a' * 4, none⟩ = some (.slice (some ⟨lb, 0, none⟩) l'.length lc) := by simpa using c0
      have k1 : l'.length ≤ lc := k1
      unfold maxLen at k2
      clear hn hkc c0 c1 c2 c3 cf hy' hw' zz
      generalize l'.length = L at *
      go_wp2_with (go_at_call 94; refine HL.mono ?_; rintro e wz ⟨rfl, rfl⟩)
      go_ret2
      exact ⟨rfl, _, rfl⟩
    | succ d' =>
      obtain ⟨n, hn, hp, hne, hks, hwd, hcn, hdn⟩ := hs'.down
      have ha : a' < N := by rw [← HN.out]; exact (List.getElem?_eq_some_iff.1 hn).1
      have HL := last_any (HR.out.drewN q') hn
      rw [show decide (n.kids = []) = false by simp [hne]] at HL
      have HK := kid_any (HR.out.drewN q') hn hp hks (i := i') (by omega)
      obtain ⟨kb, kc, hvk, hko, hk1, hk2, hkc⟩ := kidsCells HR.out hn (by simp) hp
      obtain ⟨zz, c0, c1, c2, c3, cf⟩ := HR.out.cellsAt hn GV.out
      rw [hvk] at c1
      have HKC : Hid (∀ (j : Nat) k, n.kids[j]? = some k → w.cell? ⟨kb, j, none⟩ = some (.int .i64 k)) := fun j k hj => (hkc j k hj).1
      have HX : Hid (∀ k i2 kd : Nat, n.kids[k]? = some kd → i' = ((n.kids.take k).map s.cnt).sum + i2 → (i2 < s.cnt kd ∨ k + 1 = n.kids.length) → s.cnt kd < s.cnt a' ∧ ∃ l2 j2, Sub s d' kd l2 j2 ∧ (0 < d' → 2 ≤ s.wid kd) ∧ l2[i2]? = some y ∧ l2.length < 2 ^ 38) := by
        intro k i2 kd hkd hsum hor
        obtain ⟨lx, lc, ly, jx, jc, jy, rfl, hC, hX, hY⟩ := hdn k kd hkd
        have h2 := hw' (by omega)
        have x1 := hX.len (m := 1) fun _ _ _ h => h.pos
        have y1 := hY.len (m := 1) fun _ _ _ h => h.pos
        have hkl := (List.getElem?_eq_some_iff.1 hkd).1
        simp only [List.length_take, List.length_drop, List.length_append] at x1 y1 hil hcn hl'
        rw [hX.cnt.1] at hsum
        have hcc := hC.1.cnt.1
        refine ⟨by rw [hcn, hcc]; omega, lc, jc, hC.1, fun _ => by have := hC.2.1; omega, ?_, by omega⟩
        have hi2 : i2 < lc.length := by
          rcases hor with h | h
          · omega
          · rw [List.drop_eq_nil_of_le (by omega)] at hY; rw [hY.1] at hil; simp at hil; omega
        rw [hsum, List.getElem?_append_right (by omega), Nat.add_sub_cancel_left, List.getElem?_append_left hi2] at hy'
        exact hy'
      obtain ⟨M, hM⟩ : ∃ M, n.kids.length = M := ⟨_, rfl⟩
      have HM : Hid (n.kids.length = M) := hM
      rw [hM] at c1 hk1
      unfold maxLen at hk2
      clear hn hkc hvk c0 c2 c3 cf hdn hs' hy' hw' hM hks hne hcn hil zz
      go_wp2_with (go_at_call 94; refine HL.mono ?_; rintro e wz ⟨rfl, rfl⟩)
      refine HK.mono ?_
      rintro e wz ⟨⟨k, i2, kd, rfl, hkd, hsum, hor⟩, q2, rfl⟩
      have hkl : k < M := by rw [← HM.out]; exact (List.getElem?_eq_some_iff.1 hkd).1
      have hcell := HKC.out k kd hkd
      have HY := HX.out k i2 kd hkd hsum hor
      have HY' : Hid (s.cnt kd < s.cnt a' ∧ ∃ l2 j2, Sub s d' kd l2 j2 ∧ (0 < d' → 2 ≤ s.wid kd) ∧ l2[i2]? = some y ∧ l2.length < 2 ^ 38) := HY
      clear hkd hsum hor HK HL HY
      go_wp2_with fail
      go_roundw
      case rel =>
        obtain ⟨_, l2, j2, r1, r2, r3, r4⟩ := HY'.out
        exact ⟨d', kd, i2, l2, j2, rfl, rfl, r1, r2, r3, r4, _, rfl⟩
      case measure => simpa [intOf] using HY'.out.1
end
end Go.Proofs.YtaefeakmlgjonaaGreat.Tz
/- The tree's calls pieces and Part. -/
namespace Go.Proofs.YtaefeakmlgjonaaGreat.Tz
open Go.ChangeShapes Go.WideShapes Go.ChangeAt Go.RowKit
set_option linter.unusedVariables false
set_option maxRecDepth 100000
theorem step_append_fits_any {P : Program} (w : World) {ops : Array Oper} {o : Oper} {a : Act} {K : Act → World → Prop} {Q : Exit → Act → World → Prop} {E : Prop} (hg : o.guard = none) (s x : Operand) (t : TypeId) (hop : o.op = Op.call { callee := Callee.builtin Builtin.append, args := #[s, x], argTypes := #[t, t] })
    (base : Nat) (e : TypeId) (i : TypeInfo) (size : Nat) (h1 : P.underlying t = some (.slice e)) (h2 : P.info? e = some i) (h4 : i.size = size)
    (g k cap : Nat) (xs : List Value) (hs : a.eval s = .slice (some ⟨g, 0, none⟩) k cap) (hown : w.ownsRow base e size (.slice (some ⟨g, 0, none⟩) k cap) k xs) (ao : Option Addr) (m c : Nat) (news : List Value) (hx : a.eval x = .slice ao m c) (hn : news.length = m * size)
    (hnone : ao = none → m = 0 ∧ c = 0) (hc : ∀ ad, ao = some ad → ∀ j u, news[j]? = some u → w.cell? (ad.add j) = some u) (h1c : ∀ u ∈ news, u.oneCell' = true) (b1 : k + m ≤ cap)
    (hK : ∀ w', w'.ownsRow base e size (.slice (some ⟨g, 0, none⟩) (k + m) cap) (k + m) (xs ++ news) → w.grownBy w' (some g) → K (a.put o.dst (.slice (some ⟨g, 0, none⟩) (k + m) cap)) w') :
    if Region.wanted o (yielded ops a.tmps) = true then Oper.wp P o a w K Q else E := by
  have hw : Region.wanted o (yielded ops a.tmps) = true := by simp [Region.wanted, hg]
  rw [if_pos hw]
  cases ao with
  | some ad =>
    obtain ⟨w', hrun, r1, r2⟩ := run_append_fits (P := P) w base t o.type e i size h1 h2 h4 g k cap xs hown ad m c news hn (hc ad rfl) h1c b1
    unfold Oper.wp
    simp [execOp, hop, resolve, invoke, builtin, hs, hx, hrun, Result.andThen]
    exact hK w' r1 r2
  | none =>
    obtain ⟨rfl, rfl⟩ := hnone rfl
    have hnews : news = [] := List.eq_nil_of_length_eq_zero (by simpa using hn)
    subst hnews
    have hrun := run_append_owned_none (P := P) w base t o.type e i size h1 h2 _ k xs hown
    unfold Oper.wp
    simp [execOp, hop, resolve, invoke, builtin, hs, hx, hrun, Result.andThen]
    have := hK w (by simpa using hown) (World.grownBy.refl _ _)
    simp only [Nat.add_zero] at this
    exact this
/-- What Part has gathered. -/
structure Got (w0 W : World) (pb nb gb n : Nat) (acc : List ByteArray) : Prop where
  below : Below w0.heap.size w0 W
  pge : w0.heap.size ≤ pb
  nge : w0.heap.size ≤ nb
  gge : w0.heap.size ≤ gb
  gp : gb ≠ pb
  gn : gb ≠ nb
  pn : pb ≠ nb
  p : W.heap[pb]? = some (.cells #[.slice (some ⟨gb, 0, none⟩) acc.length n] 22 (0, 0))
  nn : W.heap[nb]? = some (.cells #[.int .i64 n] 3 (0, 0))
  row : W.ownsRow w0.heap.size 9 1 (.slice (some ⟨gb, 0, none⟩) acc.length n) acc.length (strs acc)
  le : acc.length ≤ n
section
variable {w0 W : World} {pb nb gb n : Nat} {acc : List ByteArray}
theorem Got.drewN (h : Got w0 W pb nb gb n acc) (q : Nat) : Got w0 (W.drewN q) pb nb gb n acc := by
  have k : KB .free nobody nobody W (W.drewN q) := KB.same (Keeps.drewN nobody W q).os (Keeps.drewN nobody W q).tape (Keeps.drewN nobody W q).output (drewN_heap W q) (fun k hk => absurd rfl hk)
  have hb : Below w0.heap.size w0 (W.drewN q) := h.below.trans ⟨k.os, k.tape, k.output, k.size, fun j _ => by rw [drewN_heap]⟩
  refine ⟨hb, h.pge, h.nge, h.gge, h.gp, h.gn, h.pn, by rw [drewN_heap]; exact h.p, by rw [drewN_heap]; exact h.nn, ⟨h.row.1, ?_⟩, h.le⟩
  rcases h.row.2 with e | ⟨b, cap, cur, e, hb', hg, rest⟩
  · exact .inl e
  · exact .inr ⟨b, cap, cur, e, hb', by rw [drewN_heap]; exact hg, rest⟩
theorem Got.lt (h : Got w0 W pb nb gb n acc) : pb < W.heap.size ∧ nb < W.heap.size ∧ gb < W.heap.size :=
  ⟨(Array.getElem?_eq_some_iff.1 h.p).1, (Array.getElem?_eq_some_iff.1 h.nn).1, (h.row.lt gb rfl).2⟩
theorem Got.alloc (h : Got w0 W pb nb gb n acc) (ob : Obj) : Got w0 (W.alloc ob) pb nb gb n acc := by
  obtain ⟨l1, l2, l3⟩ := h.lt
  exact ⟨h.below.alloc h.below.size ob, h.pge, h.nge, h.gge, h.gp, h.gn, h.pn, by rw [alloc_old' W ob pb l1]; exact h.p, by rw [alloc_old' W ob nb l2]; exact h.nn, h.row.alloc ob, h.le⟩
/-- A store past what Part has. -/
theorem Got.store (h : Got w0 W pb nb gb n acc) {b off : Nat} {v : Value} (hb : w0.heap.size ≤ b) (h1 : b ≠ pb) (h2 : b ≠ nb) (h3 : b ≠ gb) : Got w0 (W.setCell ⟨b, off, none⟩ v) pb nb gb n acc := by
  refine ⟨h.below.trans ⟨rfl, rfl, rfl, by rw [size_setCell]; exact Nat.le_refl _, fun k hk => heap_setCell_other (by omega)⟩, h.pge, h.nge, h.gge, h.gp, h.gn, h.pn, by rw [heap_setCell_other (Ne.symm h1)]; exact h.p, by rw [heap_setCell_other (Ne.symm h2)]; exact h.nn, ⟨h.row.1, ?_⟩, h.le⟩
  rcases h.row.2 with e | ⟨b', cap, cur, e, hb', hg, rest⟩
  · exact .inl e
  · cases e
    exact .inr ⟨gb, n, cur, rfl, hb', by rw [heap_setCell_other (Ne.symm h3)]; exact hg, rest⟩
set_option maxHeartbeats 1000000 in
theorem partF_any (h : Got w0 W pb nb gb n acc) {ao : Option Addr} {l : List ByteArray} {c : Nat} (hn : n < 2 ^ 38) (hl : l.length < 2 ^ 38) (hlc : l.length ≤ c) (hc2 : c ≤ maxLen) (hnone : ao = none → l.length = 0 ∧ c = 0) (hcell : ∀ ad, ao = some ad → ∀ (j : Nat) y, l[j]? = some y → W.cell? (ad.add j) = some (.string y)) :
    Calls Tryz.prog 128 #[.slice ao l.length c, .pointer (some ⟨pb, 0, none⟩), .pointer (some ⟨nb, 0, none⟩)] W fun e w' => e = .returned (.bool (decide (((acc ++ l).take n).length < n))) ∧ Got w0 w' pb nb gb n ((acc ++ l).take n) := by
  obtain ⟨M, hM⟩ : ∃ M : Nat, M = min l.length (n - acc.length) := ⟨_, rfl⟩
  have hle := h.le
  have hmin : min (l.length : Int) ((n : Int) - (acc.length : Int)) = (M : Int) := by omega
  have e1 : (acc ++ l).take n = acc ++ l.take M := by
    rw [List.take_append, List.take_of_length_le hle, hM]; congr 1; rw [List.take_eq_take_iff]; omega
  have e2 : ((acc ++ l).take n).length = acc.length + M := by rw [e1]; simp; omega
  have c1 : W.cell? ⟨pb, 0, none⟩ = some (.slice (some ⟨gb, 0, none⟩) acc.length n) := by simp [World.cell?, h.p]
  have f1 : W.frozen? ⟨pb, 0, none⟩ = false := by simp [World.frozen?, h.p]
  have c2 : W.cell? ⟨nb, 0, none⟩ = some (.int .i64 n) := by simp [World.cell?, h.nn]
  obtain ⟨i9, hi9, z0, z1, z2⟩ := info_parts info9
  have HO : Hid (W.ownsRow w0.heap.size 9 1 (.slice (some ⟨gb, 0, none⟩) acc.length n) acc.length (strs acc)) := h.row
  have HN : Hid ((strs (l.take M)).length = M * 1) := by show (strs (l.take M)).length = M * 1; simp [strs]; omega
  have HNo : Hid (ao = none → M = 0 ∧ c = 0) := fun e => ⟨by have := (hnone e).1; omega, (hnone e).2⟩
  have HC : Hid (∀ W' : World, W'.heap = W.heap → ∀ ad, ao = some ad → ∀ j u, (strs (l.take M))[j]? = some u → W'.cell? (ad.add j) = some u) := by
    intro W' hW ad had j u hj
    simp only [strs, List.getElem?_map, Option.map_eq_some_iff] at hj
    obtain ⟨y, hy, rfl⟩ := hj
    rw [List.getElem?_take] at hy
    split at hy
    · have := hcell ad had j y hy
      simp only [World.cell?, hW] at this ⊢; exact this
    · cases hy
  have HOne : Hid (∀ u ∈ strs (l.take M), u.oneCell' = true) := strs_one _
  have HF : Hid (∀ w1 : World, w1.ownsRow w0.heap.size 9 1 (.slice (some ⟨gb, 0, none⟩) (acc.length + M) n) (acc.length + M) (strs acc ++ strs (l.take M)) → W.grownBy w1 (some gb) →
      (w1.cell? ⟨pb, 0, none⟩ = some (.slice (some ⟨gb, 0, none⟩) acc.length n) ∧ w1.frozen? ⟨pb, 0, none⟩ = false ∧ w1.cell? ⟨nb, 0, none⟩ = some (.int .i64 n)) ∧ Got w0 (w1.setCell ⟨pb, 0, none⟩ (.slice (some ⟨gb, 0, none⟩) (acc.length + M) n)) pb nb gb n ((acc ++ l).take n)) := by
    intro w1 ho hg
    obtain ⟨l1, l2, l3⟩ := h.lt
    have hp1 : w1.heap[pb]? = W.heap[pb]? := hg.block pb l1 (by simp; exact fun e => h.gp e.symm)
    have hn1 : w1.heap[nb]? = W.heap[nb]? := hg.block nb l2 (by simp; exact fun e => h.gn e.symm)
    rw [h.p] at hp1; rw [h.nn] at hn1
    refine ⟨⟨by simp [World.cell?, hp1], by simp [World.frozen?, hp1], by simp [World.cell?, hn1]⟩, ?_, h.pge, h.nge, h.gge, h.gp, h.gn, h.pn, ?_, ?_, ?_, ?_⟩
    · refine h.below.trans ⟨hg.os, hg.tape, hg.output, by rw [size_setCell]; exact hg.size, fun k hk => ?_⟩
      rw [heap_setCell_other (by have := h.pge; omega)]
      have := h.gge; have := h.below.size
      exact hg.block k (by omega) (by simp; omega)
    · rw [heap_setCell hp1, e2]; rfl
    · rw [heap_setCell_other (Ne.symm h.pn)]; exact hn1
    · rw [e2, e1]
      refine ⟨by simp [strs]; omega, ?_⟩
      rcases ho.2 with ⟨e, _⟩ | ⟨b', cap, cur, e, hb', hg', r1, r2, r3, r4⟩
      · cases e
      · cases e
        refine .inr ⟨gb, n, cur, rfl, hb', by rw [heap_setCell_other h.gp]; exact hg', r1, r2, r3, ?_⟩
        rw [r4]; simp [strs]
    · rw [e2]; omega
  have hAM : acc.length + M ≤ n := by omega
  have HE : Hid (((acc ++ l).take n).length = acc.length + M) := e2
  unfold maxLen at hc2
  have hMc : M ≤ c := by omega
  have hp1 : ¬ (pb = nb) := h.pn
  have hp2 : ¬ (nb = pb) := fun e => h.pn e.symm
  clear h hcell hnone e1 e2 hM
  generalize acc.length = A at *
  generalize l.length = L at *
  rw [HE.out]
  have HD : Hid (decide ((A : Int) + (M : Int) < (n : Int)) = decide (A + M < n)) := by
    show decide ((A : Int) + (M : Int) < (n : Int)) = decide (A + M < n)
    apply decide_eq_decide.2; omega
  go_enter Tryz.func128, Tryz.ntmps128
  have hwr : IntKind.i64.wrap ((n : Int) - (A : Int)) = (n : Int) - (A : Int) := by rw [IntKind.wrap_i64]; omega
  cases ao with
  | none =>
    have HN2 : Hid (M = 0 ∧ c = 0) := HNo.out rfl
    clear HNo
    go_wp2_with fail
    go_region_law ((refine step_append_fits_any _ rfl (.tmp 5) (.tmp 14) 22 rfl w0.heap.size 9 i9 1 Tryz.underlying22 hi9 z1 gb A n (strs acc) (by rfl) HO.out none M c (strs (l.take M)) (by rfl) HN.out (fun _ => HN2.out) (HC.out _ (by rfl)) HOne.out hAM ?_; intro w1 hown hgrow; obtain ⟨⟨q0, qf, qn⟩, HG⟩ := HF.out w1 hown ⟨hgrow.os, hgrow.tape, hgrow.output, hgrow.size, hgrow.block⟩; clear hown hgrow))
    all_goals go_wp2_with fail
    all_goals go_ret
    all_goals
      refine ⟨?_, HG⟩
      show Ending.returned (Value.bool (decide ((A : Int) + (M : Int) < (n : Int)))) = _
      rw [HD.out]
  | some ad =>
    clear HNo
    go_wp2_with fail
    go_region_law ((refine step_append_fits_any _ rfl (.tmp 5) (.tmp 14) 22 rfl w0.heap.size 9 i9 1 Tryz.underlying22 hi9 z1 gb A n (strs acc) (by rfl) HO.out (some ad) M c (strs (l.take M)) (by rfl) HN.out (fun e => by cases e) (HC.out _ (by rfl)) HOne.out hAM ?_; intro w1 hown hgrow; obtain ⟨⟨q0, qf, qn⟩, HG⟩ := HF.out w1 hown ⟨hgrow.os, hgrow.tape, hgrow.output, hgrow.size, hgrow.block⟩; clear hown hgrow))
    all_goals go_wp2_with fail
    all_goals go_ret
    all_goals
      refine ⟨?_, HG⟩
      show Ending.returned (Value.bool (decide ((A : Int) + (M : Int) < (n : Int)))) = _
      rw [HD.out]
end
end Go.Proofs.YtaefeakmlgjonaaGreat.Tz
/- The tree's call pieces. -/
namespace Go.Proofs.YtaefeakmlgjonaaGreat.Tz
set_option maxRecDepth 100000
open Go.ChangeShapes Go.WideShapes Go.ChangeAt Go.RowKit
section
variable {o : Own} {w0 W : World} {t pb nb gb n : Nat} {s : St} {vn vg : Value} {acc : List ByteArray}
theorem RepX.below (h : Rep o w0 t s vn vg) (hb : Below w0.heap.size w0 W) : Rep o W t s vn vg := by
  have r : ∀ {g e size v n xs}, Row o w0 g e size v n xs → Row o W g e size v n xs := fun hr => hr.below hb
  exact ⟨h.ot, by rw [hb.block t h.tlt]; exact h.tree, r h.nodes, r h.gone, fun i n hi hx => r (h.lines i n hi hx), fun i n hi hx => r (h.kids i n hi hx), fun k hk => Nat.lt_of_lt_of_le (h.lt k hk) hb.size⟩
set_option maxHeartbeats 1000000 in
theorem pieces_leaf (h : Rep o w0 t s vn vg) (hG : Got w0 W pb nb gb n acc) {a i : Nat} {ls : List ByteArray} {js : List Nat} (hs : Sub s 0 a ls js) (hi : i ≤ ls.length) (hn : n < 2 ^ 38) (hl : ls.length < 2 ^ 38) :
    Calls Tryz.prog 127 #[.pointer (some ⟨t, 0, none⟩), .int .i64 a, .int .i64 i, .func (.func 128) #[] #[.pointer (some ⟨pb, 0, none⟩), .pointer (some ⟨nb, 0, none⟩)]] W fun e w' => e = .returned (.bool (decide (((acc ++ ls.drop i).take n).length < n))) ∧ Got w0 w' pb nb gb n ((acc ++ ls.drop i).take n) := by
  obtain ⟨rfl, v, hnd⟩ := hs
  have h1 := h.below hG.below
  have ha := (List.getElem?_eq_some_iff.1 hnd).1
  obtain ⟨b, cap, hvn, hob, n1, n2, hcc⟩ := h1.nodeCells (by omega)
  clear hcc
  obtain ⟨a0, c0, c1, c2, c3, cf⟩ := h1.cellsAt hnd hvn
  obtain ⟨la, lc, hvl, l1, l2⟩ := (h1.lines a _ hnd (by simp)).form
  replace hvl : v = .slice la ls.length lc := hvl
  subst hvl
  replace l1 : ls.length ≤ lc := l1
  rw [hvn] at a0
  replace c0 : W.cell? ⟨b, a * 4, none⟩ = some (.slice la ls.length lc) := c0
  replace c1 : W.cell? ⟨b, a * 4 + 1, none⟩ = some (.slice none 0 0) := c1
  replace c2 : W.cell? ⟨b, a * 4 + 2, none⟩ = some (.int .i64 ls.length) := c2
  replace c3 : W.cell? ⟨b, a * 4 + 3, none⟩ = some (.int .i64 (sizes ls)) := c3
  have HL : Hid (∀ ob, Calls Tryz.prog 94 #[.pointer (some ⟨t, 0, none⟩), .int .i64 a] (W.alloc ob) fun e w' => e = .returned (.bool true) ∧ w' = W.alloc ob) := fun ob => by
    have := last_any (h1.alloc ob) hnd
    rw [show decide ((⟨.slice la ls.length lc, .slice none 0 0, ls, [], ls.length, sizes ls⟩ : Node).kids = []) = true by simp] at this; exact this
  obtain ⟨acc2, hacc⟩ : ∃ acc2, (acc ++ ls.drop i).take n = acc2 := ⟨_, rfl⟩
  obtain ⟨R, hR⟩ : ∃ R : Bool, decide (acc2.length < n) = R := ⟨_, rfl⟩
  rw [hacc, hR]
  have HF : Hid (∀ ob ao, (ao = none → ls.length - i = 0 ∧ lc - i = 0) → (∀ ad, ao = some ad → ∀ (j : Nat) y, (ls.drop i)[j]? = some y → (W.alloc ob).cell? (ad.add j) = some (.string y)) →
      Calls Tryz.prog 128 #[.slice ao (ls.length - i) (lc - i), .pointer (some ⟨pb, 0, none⟩), .pointer (some ⟨nb, 0, none⟩)] (W.alloc ob) fun e w' => e = .returned (.bool R) ∧ Got w0 w' pb nb gb n acc2) := by
    intro ob ao q1 q2
    have := partF_any (hG.alloc ob) (ao := ao) (l := ls.drop i) (c := lc - i) hn (by simp; omega) (by simp; omega) (by omega) (by simpa using q1) q2
    rw [List.length_drop, hacc, hR] at this; exact this
  have HR : Hid (Row o W (.lines a) 9 1 (.slice la ls.length lc) ls.length (strs ls)) := h1.lines a _ hnd (by simp)
  have HC : Hid (∀ lb, la = some ⟨lb, 0, none⟩ → ∀ ob (j : Nat) y, (ls.drop i)[j]? = some y → (W.alloc ob).cell? ⟨lb, i + j, none⟩ = some (.string y)) := by
    intro lb e ob j y hj
    subst e
    rw [List.getElem?_drop] at hj
    obtain ⟨lb', e1, e2⟩ := lineAt (h1.alloc ob) hnd (by simp) rfl hj
    cases e1; exact e2
  have hform : (la = none ∧ ls.length = 0 ∧ lc = 0) ∨ ∃ lb, la = some ⟨lb, 0, none⟩ := by
    rcases HR.out.1.2 with ⟨e, e0⟩ | ⟨lb, cap', cur, e, _⟩
    · injection e with e1 e2 e3; exact .inl ⟨e1, e2, e3⟩
    · injection e with e1 e2 e3; exact .inr ⟨lb, e1⟩
  unfold maxLen at n2 l2
  clear h1 hnd hvn hG HR hacc hR
  generalize hLL : ls.length = L at *
  generalize sizes ls = SZ at *
  have HLL : Hid (ls.length = L) := hLL
  clear hLL
  go_enter Tryz.func127, Tryz.ntmps127
  go_wp2_with fail
  refine (HL.out _).mono ?_
  rintro e wz ⟨rfl, rfl⟩
  rcases hform with ⟨rfl, rfl, rfl⟩ | ⟨lb, rfl⟩
  · have hi0 : i = 0 := by omega
    subst hi0
    have HF0 := HF.out (.cells #[.slice none 0 0, .slice none 0 0, .int .i64 0, .int .i64 SZ] 141) none (fun _ => ⟨rfl, rfl⟩) (fun ad e => by cases e)
    simp only [Nat.sub_zero] at HF0
    have HF1 : Hid _ := HF0
    clear HF0 hi
    go_wp2_with fail
    refine Calls.mono HF1.out ?_
    rintro e w1 ⟨rfl, HG⟩
    go_wp2_with fail
    go_ret
    exact ⟨rfl, HG⟩
  · by_cases hic : lc = i
    · subst hic
      have HF0 := HF.out (.cells #[.slice (some ⟨lb, 0, none⟩) L lc, .slice none 0 0, .int .i64 L, .int .i64 SZ] 141) (some ⟨lb, 0, none⟩) (fun e => by cases e) (fun ad e j y hj => by
        have h0 := (List.getElem?_eq_some_iff.1 hj).1
        rw [List.length_drop] at h0
        have := HLL.out
        omega)
      rw [Nat.sub_self, show L - lc = 0 by omega] at HF0
      have HF1 : Hid _ := HF0
      clear HF0
      go_wp2_with fail
      refine Calls.mono HF1.out ?_
      rintro e w1 ⟨rfl, HG⟩
      go_wp2_with fail
      go_ret
      exact ⟨rfl, HG⟩
    · have HF0 := HF.out (.cells #[.slice (some ⟨lb, 0, none⟩) L lc, .slice none 0 0, .int .i64 L, .int .i64 SZ] 141) (some ⟨lb, i, none⟩) (fun e => by cases e) (fun ad e j y hj => by
        cases e
        rw [Addr.add_lit]; exact HC.out lb rfl _ j y hj)
      have HF1 : Hid _ := HF0
      clear HF0
      go_wp2_with fail
      refine Calls.mono HF1.out ?_
      rintro e w1 ⟨rfl, HG⟩
      go_wp2_with fail
      go_ret
      exact ⟨rfl, HG⟩
/-- pieces is called at node 'a', from place 'i' on. -/
def PiecesAt (w0 : World) (t pb nb gb n a i : Nat) (acc ls : List ByteArray) (W : World) : Prop :=
  Calls Tryz.prog 127 #[.pointer (some ⟨t, 0, none⟩), .int .i64 a, .int .i64 i, .func (.func 128) #[] #[.pointer (some ⟨pb, 0, none⟩), .pointer (some ⟨nb, 0, none⟩)]] W fun e w' => e = .returned (.bool (decide (((acc ++ ls.drop i).take n).length < n))) ∧ Got w0 w' pb nb gb n ((acc ++ ls.drop i).take n)
theorem take_full {l m : List ByteArray} {n : Nat} (h : ¬ (l.take n).length < n) : (l ++ m).take n = l.take n := by
  rw [List.length_take] at h
  rw [List.take_append_of_le_length (by omega)]
theorem take_more {l m : List ByteArray} {n : Nat} : (l.take n ++ m).take n = (l ++ m).take n := by
  rw [List.take_append, List.take_take, List.take_append, List.length_take]
  simp only [Nat.min_self]
  congr 1
  by_cases h : n ≤ l.length
  · rw [Nat.min_eq_left h, Nat.sub_self, Nat.sub_eq_zero_of_le h]
  · rw [Nat.min_eq_right (by omega)]
set_option maxHeartbeats 1000000 in
theorem pieces_inner (h : Rep o w0 t s vn vg) (hG : Got w0 W pb nb gb n acc) {d a i : Nat} {ls : List ByteArray} {js : List Nat} (hs : Sub s (d + 1) a ls js) (hi : i ≤ ls.length) (hl : ls.length < 2 ^ 38)
    (IH : ∀ (W : World) (acc : List ByteArray) (c i : Nat) (l : List ByteArray) (j : List Nat), Got w0 W pb nb gb n acc → Sub s d c l j → i ≤ l.length → l.length < 2 ^ 38 → PiecesAt w0 t pb nb gb n c i acc l W) : PiecesAt w0 t pb nb gb n a i acc ls W := by
  obtain ⟨u, ks, js', rfl, hnd, hp, hA⟩ := hs
  replace hA : All (Ok s d) ks ls js' := hA
  have h1 := h.below hG.below
  have ha := (List.getElem?_eq_some_iff.1 hnd).1
  obtain ⟨b, cap, hvn, hob, n1, n2, hcc⟩ := h1.nodeCells (by omega)
  clear hcc
  obtain ⟨a0, c0, c1, c2, c3, cf⟩ := h1.cellsAt hnd hvn
  obtain ⟨kb, kc, hvk, hko, hk1, hk2, hkc⟩ := kidsCells h1 hnd (by simp) hp
  replace hvk : u = .slice (some ⟨kb, 0, none⟩) ks.length kc := hvk
  subst hvk
  rw [hvn] at a0
  replace c0 : W.cell? ⟨b, a * 4, none⟩ = some (.slice none 0 0) := c0
  replace c1 : W.cell? ⟨b, a * 4 + 1, none⟩ = some (.slice (some ⟨kb, 0, none⟩) ks.length kc) := c1
  replace c2 : W.cell? ⟨b, a * 4 + 2, none⟩ = some (.int .i64 ls.length) := c2
  replace c3 : W.cell? ⟨b, a * 4 + 3, none⟩ = some (.int .i64 (sizes ls)) := c3
  replace hk1 : ks.length ≤ kc := hk1
  have hne : ks ≠ [] := List.ne_nil_of_length_pos hp
  have HL : Hid (∀ ob, Calls Tryz.prog 94 #[.pointer (some ⟨t, 0, none⟩), .int .i64 a] (W.alloc ob) fun e w' => e = .returned (.bool false) ∧ w' = W.alloc ob) := fun ob => by
    have := last_any (h1.alloc ob) hnd
    rw [show decide ((⟨.slice none 0 0, .slice (some ⟨kb, 0, none⟩) ks.length kc, [], ks, ls.length, sizes ls⟩ : Node).kids = []) = false by simp [hne]] at this; exact this
  have HK : Hid (∀ ob, Calls Tryz.prog 95 #[.pointer (some ⟨t, 0, none⟩), .int .i64 a, .int .i64 i] (W.alloc ob) fun e w' => (∃ k i' kd : Nat, e = .returned (.tuple #[.int .i64 k, .int .i64 i']) ∧ ks[k]? = some kd ∧ i = ((ks.take k).map s.cnt).sum + i' ∧ (i' < s.cnt kd ∨ k + 1 = ks.length)) ∧ ∃ q, w' = (W.alloc ob).drewN q) := fun ob =>
    kid_any (h1.alloc ob) hnd hp (fun c hc => by obtain ⟨l, j, hc⟩ := hA.each c hc; exact hc.1.lt) (by omega)
  have HKC : Hid (∀ W' : World, Got w0 W' pb nb gb n acc ∨ True → Below w0.heap.size w0 W' → ∀ (j : Nat) k, ks[j]? = some k → W'.cell? ⟨kb, j, none⟩ = some (.int .i64 k)) := by
    intro W' _ hb j k hj
    obtain ⟨lb', e1, e2⟩ := kidAt (h.below hb) hnd (by simp) rfl hj
    cases e1; exact e2
  have HG : Hid (Got w0 W pb nb gb n acc) := hG
  have HI : Hid (∀ (W : World) (acc : List ByteArray) (c i : Nat) (l : List ByteArray) (j : List Nat), Got w0 W pb nb gb n acc → Sub s d c l j → i ≤ l.length → l.length < 2 ^ 38 → PiecesAt w0 t pb nb gb n c i acc l W) := IH
  have HP : Hid (∀ k i' kd : Nat, ks[k]? = some kd → i = ((ks.take k).map s.cnt).sum + i' → (i' < s.cnt kd ∨ k + 1 = ks.length) → ∃ lz jz, All (Ok s d) (ks.drop k) lz jz ∧ ls.drop i = lz.drop i' ∧ lz.length < 2 ^ 38 ∧ ∀ lc l3 jc j3, lz = lc ++ l3 → Ok s d kd lc jc → All (Ok s d) (ks.drop (k + 1)) l3 j3 → i' ≤ lc.length) := by
    intro k i' kd hkd hsum hor
    have hA2 : All (Ok s d) (ks.take k ++ ks.drop k) ls js' := by rw [List.take_append_drop]; exact hA
    obtain ⟨lx, lz, jx, jz, rfl, rfl, hX, hZ⟩ := hA2.cut
    rw [hX.cnt.1] at hsum
    refine ⟨lz, jz, hZ, ?_, by simp at hl; omega, fun lc l3 jc j3 e hO hR => ?_⟩
    · rw [hsum, List.drop_length_add_append]
    · subst e
      rw [hO.1.cnt.1] at hor
      rcases hor with hor | hor
      · omega
      · rw [List.drop_eq_nil_of_le (by omega)] at hR
        rw [hR.1] at hi; simp at hi; omega
  have HBel : Hid (Below w0.heap.size w0 W) := hG.below
  unfold maxLen at n2 hk2
  obtain ⟨K, hK⟩ : ∃ K, ks.length = K := ⟨_, rfl⟩
  have HKL : Hid (ks.length = K) := hK
  obtain ⟨SZ, hSZ⟩ : ∃ SZ, sizes ls = SZ := ⟨_, rfl⟩
  obtain ⟨LL, hLL⟩ : ∃ LL, ls.length = LL := ⟨_, rfl⟩
  rw [hK] at c1 hk1
  rw [hSZ] at c3
  rw [hLL] at c2 hi hl
  have hLK : 0 < K := by rw [← hK]; exact hp
  clear h1 hnd hvn hA hG hkc hK hSZ hLL IH h hne hp cf hob hko
  unfold PiecesAt
  go_enter Tryz.func127, Tryz.ntmps127
  go_wp2_with fail
  refine (HL.out _).mono ?_
  rintro e wz ⟨rfl, rfl⟩
  go_wp2_with fail
  refine (HK.out _).mono ?_
  rintro e wz ⟨⟨k, i', kd, rfl, hkd, hsum, hor⟩, q, rfl⟩
  have hkK : k < K := by rw [← HKL.out]; exact (List.getElem?_eq_some_iff.1 hkd).1
  obtain ⟨lz, jz, hZ, hdrop, hlz, hfirst⟩ := HP.out k i' kd hkd hsum hor
  have HZ : Hid (All (Ok s d) (ks.drop k) lz jz ∧ ls.drop i = lz.drop i' ∧ lz.length < 2 ^ 38 ∧ ks[k]? = some kd ∧ ∀ lc l3 jc j3, lz = lc ++ l3 → Ok s d kd lc jc → All (Ok s d) (ks.drop (k + 1)) l3 j3 → i' ≤ lc.length) := ⟨hZ, hdrop, hlz, hkd, hfirst⟩
  have hkc : ¬ (kc = k) := by omega
  clear hkd hsum hor hZ hdrop hlz hfirst
  go_wp2_with fail
  go_loopw [2, 41] (fun vi vj wr => ∃ (j ii : Nat) (l1 l2 : List ByteArray) (j2 : List Nat), j ≤ K - k ∧ vj = .int .i64 j ∧ vi = .int .i64 ii ∧ lz = l1 ++ l2 ∧ All (Ok s d) (ks.drop (k + j)) l2 j2 ∧ ((j = 0 ∧ l1 = [] ∧ ii = i') ∨ (0 < j ∧ ii = 0 ∧ i' ≤ l1.length)) ∧ Got w0 wr pb nb gb n ((acc ++ l1.drop i').take n) ∧ (0 < j → ((acc ++ l1.drop i').take n).length < n)) (fun _ vj _ => K - k - (intOf vj).toNat)
  case atStart =>
    refine ⟨0, i', [], lz, jz, Nat.zero_le _, rfl, rfl, rfl, HZ.out.1, .inl ⟨rfl, rfl, rfl⟩, ?_, fun h => absurd h (by omega)⟩
    have := (HG.out.alloc (.cells #[.slice none 0 0, .slice (some ⟨kb, 0, none⟩) K kc, .int .i64 LL, .int .i64 SZ] 141)).drewN q
    rw [List.drop_nil, List.append_nil, List.take_of_length_le HG.out.le]; exact this
  case round =>
    obtain ⟨j, ii, l1, l2, j2, hj, rfl, rfl, hlz, hA2, hcase, hG2, hlt2⟩ := hrel
    by_cases hjl : j < K - k
    · have hkj : ks[k + j]? = some (ks[k + j]'(by rw [HKL.out]; omega)) := List.getElem?_eq_getElem _
      generalize ks[k + j]'(by rw [HKL.out]; omega) = c at hkj
      have hdr : ks.drop (k + j) = c :: ks.drop (k + j + 1) := by
        obtain ⟨h1, e1⟩ := List.getElem?_eq_some_iff.1 hkj
        rw [List.drop_eq_getElem_cons h1, e1]
      rw [hdr] at hA2
      obtain ⟨lc, l3, jc, j3, rfl, rfl, hO, hA3⟩ := hA2
      have hcell := HKC.out wr (.inr trivial) hG2.below (k + j) c hkj
      have hii : ii ≤ lc.length := by
        rcases hcase with ⟨h1, h2, h3⟩ | ⟨h1, h2, h3⟩
        · subst h1 h2 h3
          obtain ⟨z1, z2, z3, z4, z5⟩ := HZ.out
          rw [Nat.add_zero] at hkj hA3
          rw [z4] at hkj; cases hkj
          exact z5 lc l3 jc j3 (by simpa using hlz) hO hA3
        · omega
      have hlcl : lc.length < 2 ^ 38 := by have := HZ.out.2.2.1; rw [hlz] at this; simp at this; omega
      have hacc : ((acc ++ l1.drop i').take n ++ lc.drop ii).take n = (acc ++ (l1 ++ lc).drop i').take n := by
        rw [take_more, List.append_assoc]
        congr 2
        rcases hcase with ⟨h1, h2, h3⟩ | ⟨h1, h2, h3⟩
        · subst h1 h2 h3; simp
        · subst h2; rw [List.drop_append_of_le_length h3]; simp
      have HC := HI.out wr _ c ii lc jc hG2 hO.1 hii hlcl
      unfold PiecesAt at HC
      rw [hacc] at HC
      obtain ⟨acc2, hac2⟩ : ∃ acc2, (acc ++ (l1 ++ lc).drop i').take n = acc2 := ⟨_, rfl⟩
      rw [hac2] at HC
      have HNext : Hid (∀ w2, Got w0 w2 pb nb gb n acc2 → (acc2.length < n → ∃ (j' ii' : Nat) (l1' l2' : List ByteArray) (j2' : List Nat), j' ≤ K - k ∧ Value.int .i64 ((j : Int) + 1) = .int .i64 j' ∧ Value.int .i64 0 = .int .i64 ii' ∧ lz = l1' ++ l2' ∧ All (Ok s d) (ks.drop (k + j')) l2' j2' ∧ ((j' = 0 ∧ l1' = [] ∧ ii' = i') ∨ (0 < j' ∧ ii' = 0 ∧ i' ≤ l1'.length)) ∧ Got w0 w2 pb nb gb n ((acc ++ l1'.drop i').take n) ∧ (0 < j' → ((acc ++ l1'.drop i').take n).length < n)) ∧
          (¬ acc2.length < n → Got w0 w2 pb nb gb n ((acc ++ ls.drop i).take n) ∧ ¬ ((acc ++ ls.drop i).take n).length < n)) := by
        intro w2 hG3
        refine ⟨fun hlt => ⟨j + 1, 0, l1 ++ lc, l3, j3, by omega, by simp, rfl, by rw [hlz]; simp, hA3, .inr ⟨by omega, rfl, ?_⟩, by rw [hac2]; exact hG3, fun _ => by rw [hac2]; exact hlt⟩, fun hge => ?_⟩
        · rcases hcase with ⟨h1, h2, h3⟩ | ⟨h1, h2, h3⟩
          · subst h3; simp; omega
          · simp; omega
        · have hi1 : i' ≤ (l1 ++ lc).length := by
            rcases hcase with ⟨h1, h2, h3⟩ | ⟨h1, h2, h3⟩
            · subst h3; simp; omega
            · simp; omega
          have e1 : (acc ++ ls.drop i).take n = acc2 := by
            rw [HZ.out.2.1, hlz, ← List.append_assoc l1 lc l3, List.drop_append_of_le_length hi1, ← List.append_assoc, take_full (by rw [hac2]; exact hge), hac2]
          rw [e1]; exact ⟨hG3, hge⟩
      clear hG2 hcase hA3 hO hlz hdr hacc hac2 hkj hii hlcl hlt2
      have hd1 : decide ((j : Int) < (((K - k : Nat)) : Int)) = true := by simp; omega
      by_cases hR : acc2.length < n
      · rw [show decide (acc2.length < n) = true by simp [hR]] at HC
        have HC' : Hid _ := HC
        have HN1 : Hid (∀ w2, Got w0 w2 pb nb gb n acc2 → _) := fun w2 hg => (HNext.out w2 hg).1 hR
        clear HC HNext hR
        go_wp2_with (go_at_call 127; refine Calls.mono HC'.out ?_; rintro e w2 ⟨rfl, HG2⟩)
        go_roundw
        case rel =>
          obtain ⟨j', ii', l1', l2', j2', r1, r2, r3, r4⟩ := HN1.out _ HG2
          exact ⟨j', ii', l1', l2', j2', r1, by go_num, by go_num, r4⟩
        case measure => simp [intOf]; omega
      · rw [show decide (acc2.length < n) = false by simp [hR]] at HC
        have HC' : Hid _ := HC
        have HN1 : Hid (∀ w2, Got w0 w2 pb nb gb n acc2 → Got w0 w2 pb nb gb n ((acc ++ ls.drop i).take n) ∧ ¬ ((acc ++ ls.drop i).take n).length < n) := fun w2 hg => (HNext.out w2 hg).2 hR
        clear HC HNext hR
        go_wp2_with (go_at_call 127; refine Calls.mono HC'.out ?_; rintro e w2 ⟨rfl, HG2⟩)
        go_ret
        obtain ⟨r1, r2⟩ := HN1.out _ HG2
        exact ⟨by show Ending.returned (.bool false) = _; rw [show decide (((acc ++ ls.drop i).take n).length < n) = false by simpa using r2], r1⟩
    · obtain rfl : j = K - k := by omega
      have hd1 : decide ((((K - k : Nat)) : Int) < (((K - k : Nat)) : Int)) = false := by simp
      have HFin : Hid (Got w0 wr pb nb gb n ((acc ++ ls.drop i).take n) ∧ ((acc ++ ls.drop i).take n).length < n) := by
        have hnil : ks.drop (k + (K - k)) = [] := List.drop_eq_nil_of_le (by rw [HKL.out]; omega)
        rw [hnil] at hA2
        obtain ⟨rfl, rfl⟩ := hA2
        rw [List.append_nil] at hlz
        subst hlz
        rw [HZ.out.2.1]
        exact ⟨hG2, hlt2 (by omega)⟩
      clear hG2 hcase hA2 hlz hlt2
      go_wp2_with fail
      go_ret
      exact ⟨by show Ending.returned (.bool true) = _; rw [show decide (((acc ++ ls.drop i).take n).length < n) = true by simpa using HFin.out.2], HFin.out.1⟩
theorem pieces_any (h : Rep o w0 t s vn vg) (hn : n < 2 ^ 38) : ∀ (d : Nat) (W : World) (acc : List ByteArray) (a i : Nat) (ls : List ByteArray) (js : List Nat), Got w0 W pb nb gb n acc → Sub s d a ls js → i ≤ ls.length → ls.length < 2 ^ 38 → PiecesAt w0 t pb nb gb n a i acc ls W
  | 0, _, _, _, _, _, _, hG, hs, hi, hl => pieces_leaf h hG hs hi hn hl
  | d + 1, _, _, _, _, _, _, hG, hs, hi, hl => pieces_inner h hG hs hi hl (pieces_any h hn d)
end
end Go.Proofs.YtaefeakmlgjonaaGreat.Tz
/- The tree's calls Part and Lines. -/
namespace Go.Proofs.YtaefeakmlgjonaaGreat.Tz
set_option maxRecDepth 100000
open Go.ChangeShapes Go.WideShapes Go.ChangeAt Go.RowKit
section
variable {o : Own} {w : World} {t m : Nat} {ls : List ByteArray}
/-- A new slice of the lines 'ms', in memory that nobody had. -/
def Told (w : World) (v : Value) (ms : List ByteArray) (w' : World) : Prop := Below w.heap.size w w' ∧ ∃ gb, v = .slice (some ⟨gb, 0, none⟩) ms.length ms.length ∧ w'.ownsRow w.heap.size 9 1 v ms.length (strs ms)
theorem part_no (h : Tr o w t ls m) (hl : ls.length < 2 ^ 38) (i n : Int) (hi : -9223372036854775808 ≤ i ∧ i ≤ 9223372036854775807) (hno : ¬ (0 ≤ i ∧ 0 ≤ n ∧ n ≤ (ls.length : Int) - i)) :
    Calls Tryz.prog 86 #[.pointer (some ⟨t, 0, none⟩), .int .i64 i, .int .i64 n] w fun e w' => e = .returned (.tuple #[.slice none 0 0, .bool false]) ∧ Below w.heap.size w w' := by
  have HH := (h.alloc (.cells #[.int .i64 n] 3)).has hl i n hi
  rw [show decide (0 ≤ i ∧ 0 ≤ n ∧ n ≤ (ls.length : Int) - i) = false by simpa using hno] at HH
  have HF : Hid (∀ q, Below w.heap.size w ((w.alloc (.cells #[.int .i64 n] 3)).drewN q)) := fun q => by
    have k := Keeps.drewN nobody (w.alloc (.cells #[.int .i64 n] 3)) q
    exact ((Below.refl _ w).alloc (Nat.le_refl _) _).trans ⟨k.os, k.tape, k.output, k.size, fun j _ => by rw [drewN_heap]⟩
  clear h hno
  go_enter Tryz.func86, Tryz.ntmps86
  go_wp2_with (go_at_call 93; refine HH.mono ?_; rintro e w1 ⟨rfl, q, rfl⟩)
  go_ret2
  exact ⟨rfl, HF.out _⟩
set_option maxHeartbeats 1000000 in
theorem part_ok (h : Tr o w t ls m) (hl : ls.length < 2 ^ 38) {i n : Nat} (hin : i + n ≤ ls.length) :
    Calls Tryz.prog 86 #[.pointer (some ⟨t, 0, none⟩), .int .i64 i, .int .i64 n] w fun e w' => ∃ v, e = .returned (.tuple #[v, .bool true]) ∧ Told w v ((ls.drop i).take n) w' := by
  have HH := (h.alloc (.cells #[.int .i64 n] 3)).has hl i n (by omega)
  rw [show decide (0 ≤ (i : Int) ∧ (0 : Int) ≤ n ∧ n ≤ (ls.length : Int) - i) = true by simp; omega] at HH
  obtain ⟨s, vn, vg, d, h1, ⟨js, hs, hf, hw8, hw2⟩, _⟩ := h
  have hlen : ((ls.drop i).take n).length = n := by simp; omega
  obtain ⟨i9, hi9, z0, z1, z2⟩ := info_parts info9
  have HG : Hid (∀ (q : Nat) (w1 : World), w1.ownsRow w.heap.size 9 1 (.slice (some ⟨w.heap.size + 1, 0, none⟩) 0 n) 0 [] → ((w.alloc (.cells #[.int .i64 n] 3)).drewN q).grownBy w1 none →
      Got w (w1.alloc (.cells #[.slice (some ⟨w.heap.size + 1, 0, none⟩) 0 n] 22)) w1.heap.size w.heap.size (w.heap.size + 1) n [] ∧ (w1.alloc (.cells #[.slice (some ⟨w.heap.size + 1, 0, none⟩) 0 n] 22)).cell? ⟨t, 2, none⟩ = some (.int .i64 s.top)) := by
    intro q w1 ho hg
    have hsz : w.heap.size + 1 ≤ w1.heap.size := by have := hg.size; rw [drewN_heap] at this; simpa using this
    have hlt := (ho.lt (w.heap.size + 1) rfl).2
    have hold : ∀ k, k < w.heap.size + 1 → w1.heap[k]? = (w.alloc (.cells #[.int .i64 n] 3)).heap[k]? := fun k hk => by
      rw [hg.block k (by rw [drewN_heap]; simpa using hk) (by simp), drewN_heap]
    have k := Keeps.drewN nobody (w.alloc (.cells #[.int .i64 n] 3)) q
    have hb : Below w.heap.size w w1 := ⟨hg.os.trans k.os, hg.tape.trans k.tape, hg.output.trans k.output, by omega, fun j hj => by rw [hold j (by omega)]; exact alloc_old' w _ j hj⟩
    have hb2 := hb.alloc hb.size (.cells #[.slice (some ⟨w.heap.size + 1, 0, none⟩) 0 n] 22)
    refine ⟨⟨hb2, hb.size, Nat.le_refl _, by omega, by omega, by omega, by omega, alloc_new w1 _, ?_, ho.alloc _, Nat.zero_le _⟩, (h1.below hb2).at2⟩
    rw [alloc_old' w1 _ w.heap.size (by omega), hold w.heap.size (by omega)]; exact alloc_new w _
  have HP : Hid (∀ (W : World) pb nb gb, Got w W pb nb gb n [] → Calls Tryz.prog 127 #[.pointer (some ⟨t, 0, none⟩), .int .i64 s.top, .int .i64 i, .func (.func 128) #[] #[.pointer (some ⟨pb, 0, none⟩), .pointer (some ⟨nb, 0, none⟩)]] W fun e w' => e = .returned (.bool false) ∧ w'.cell? ⟨pb, 0, none⟩ = some (.slice (some ⟨gb, 0, none⟩) n n) ∧ Told w (.slice (some ⟨gb, 0, none⟩) n n) ((ls.drop i).take n) w') := by
    intro W pb nb gb hG
    have hc := pieces_any h1 (by omega) d W [] s.top i ls js hG hs (by omega) hl
    unfold PiecesAt at hc
    simp only [List.nil_append] at hc
    rw [show decide (((ls.drop i).take n).length < n) = false by rw [hlen]; simp] at hc
    refine Calls.mono hc ?_
    rintro e w' ⟨rfl, g⟩
    have hp := g.p
    have hr := g.row
    rw [hlen] at hp hr
    exact ⟨rfl, by simp [World.cell?, hp], g.below, gb, by rw [hlen], by rw [hlen]; exact hr⟩
  have hnl : n ≤ maxLen := by unfold maxLen; omega
  have hb2 : i9.bytes * n ≤ 281474976710656 := by rw [z2]; omega
  have a2 := h1.at2
  have HZ : Hid (∀ q, ((w.alloc (.cells #[.int .i64 n] 3)).drewN q).heap.size = w.heap.size + 1) := fun q => by rw [drewN_heap]; simp
  clear h1 hs hf hw8 hw2 hlen
  go_enter Tryz.func86, Tryz.ntmps86
  go_wp2_with (first | (go_at_call 93; refine HH.mono ?_; rintro e w1 ⟨rfl, q, rfl⟩) | (refine wpList_make_own _ rfl (.const (.int .i64 0)) (.tmp 14) 22 rfl w.heap.size 9 i9 _ 1 Tryz.underlying22 hi9 z0 z1 .i64 .i64 n n rfl rfl rfl hb2 hnl (by rw [HZ.out]; omega) ?_; intro w2 hown hgrow; rw [HZ.out] at hown ⊢; obtain ⟨HG2, ht2⟩ := HG.out _ _ hown hgrow; clear hown hgrow))
  refine (HP.out _ _ _ _ HG2).mono ?_
  rintro e w3 ⟨rfl, hc3, HT⟩
  go_wp2_with fail
  go_ret2
  exact ⟨_, rfl, HT⟩
theorem Told.drewN {v : Value} {ms : List ByteArray} {w' : World} {q : Nat} (h : Told (w.drewN q) v ms w') : Told w v ms w' := by
  have k := Keeps.drewN nobody w q
  obtain ⟨hb, gb, e, ho⟩ := h
  rw [drewN_heap] at hb ho
  exact ⟨(show Below w.heap.size w (w.drewN q) from ⟨k.os, k.tape, k.output, k.size, fun j _ => by rw [drewN_heap]⟩).trans hb, gb, e, ho⟩
theorem lines_any (h : Tr o w t ls m) (hl : ls.length < 2 ^ 38) : Calls Tryz.prog 48 #[.pointer (some ⟨t, 0, none⟩)] w fun e w' => ∃ v, e = .returned v ∧ Told w v ls w' := by
  have HL := h.len
  have HP : Hid (∀ q, Calls Tryz.prog 86 #[.pointer (some ⟨t, 0, none⟩), .int .i64 0, .int .i64 ls.length] (w.drewN q) fun e w' => ∃ gb, e = .returned (.tuple #[.slice (some ⟨gb, 0, none⟩) ls.length ls.length, .bool true]) ∧ Told w (.slice (some ⟨gb, 0, none⟩) ls.length ls.length) ls w') := fun q => by
    refine Calls.mono (part_ok (h.drewN q) hl (i := 0) (n := ls.length) (by omega)) ?_
    rintro e w' ⟨v, rfl, hT⟩
    simp only [List.drop_zero, List.take_length] at hT
    obtain ⟨gb, e, _⟩ := hT.2
    subst e
    exact ⟨gb, rfl, hT.drewN⟩
  clear h
  go_enter Tryz.func48, Tryz.ntmps48
  go_wp2_with (first | (go_at_call 52; refine HL.mono ?_; rintro e w1 ⟨rfl, q, rfl⟩) | (go_at_call 86; refine (HP.out _).mono ?_; rintro e w2 ⟨gb, rfl, HT⟩))
  go_ret
  exact ⟨_, rfl, HT⟩
end
end Go.Proofs.YtaefeakmlgjonaaGreat.Tz
/- What memory holds, and what a call leaves as it was. -/
namespace Go.Proofs.YtaefeakmlgjonaaGreat.Mz
open Go.ChangeShapes Go.WideShapes Go.ChangeAt Go.RowKit
set_option linter.unusedVariables false
set_option linter.unusedSimpArgs false
theorem drewN_heap (w : World) (n : Nat) : (w.drewN n).heap = w.heap := by induction n generalizing w <;> simp_all [World.drewN]
theorem drew2 (w : World) (a b : Nat) : (w.drewN a).drewN b = w.drewN (a + b) := by
  have e : ∀ (n : Nat) (w : World), w.drewN n = { w with drawn := w.drawn + n } := by
    intro n
    induction n with
    | zero => intro w; rfl
    | succ n ih => intro w; simp [World.drewN, World.drew, ih, Nat.add_assoc, Nat.add_comm 1 n]
  simp [e, Nat.add_assoc]
theorem heap_setCell {w : World} {b off : Nat} {v : Value} {cur : Array Value} {e : TypeId} {fr : Nat × Nat} (hg : w.heap[b]? = some (.cells cur e fr)) :
    (w.setCell ⟨b, off, none⟩ v).heap[b]? = some (.cells (cur.setIfInBounds off v) e fr) := by
  have hlt : b < w.heap.size := (Array.getElem?_eq_some_iff.1 hg).1
  simp [World.setCell, Array.getElem?_modify, hg]
theorem heap_setCell_other {w : World} {b off k : Nat} {v : Value} (hk : k ≠ b) : (w.setCell ⟨b, off, none⟩ v).heap[k]? = w.heap[k]? := by
  simp [World.setCell, Array.getElem?_modify, Ne.symm hk]
theorem size_setCell (w : World) (a : Addr) (v : Value) : (w.setCell a v).heap.size = w.heap.size := by simp [World.setCell]
theorem alloc_new (w : World) (ob : Obj) : (w.alloc ob).heap[w.heap.size]? = some ob := by show (w.heap.push ob)[w.heap.size]? = _; simp
theorem alloc_old (w : World) (ob : Obj) (k : Nat) (hk : k < w.heap.size) : (w.alloc ob).heap[k]? = w.heap[k]? := by
  show (w.heap.push ob)[k]? = _; rw [Array.getElem?_push_lt hk, Array.getElem?_eq_getElem hk]
theorem alloc_size (w : World) (ob : Obj) : (w.alloc ob).heap.size = w.heap.size + 1 := by show (w.heap.push ob).size = _; simp

/-- From w to w' no block that was there has turned but those of which 'S' speaks. -/
structure Fr (S : Nat → Prop) (w w' : World) : Prop where
  os : w'.os = w.os
  tape : w'.tape = w.tape
  output : w'.output = w.output
  size : w.heap.size ≤ w'.heap.size
  block : ∀ k, k < w.heap.size → ¬ S k → w'.heap[k]? = w.heap[k]?
section
variable {S S' : Nat → Prop} {w w1 w2 : World}
theorem Fr.refl (S : Nat → Prop) (w : World) : Fr S w w := ⟨rfl, rfl, rfl, Nat.le_refl _, fun _ _ _ => rfl⟩
theorem Fr.trans' (h : Fr S w w1) (h' : Fr S' w1 w2) (hs : ∀ k, k < w.heap.size → S' k → S k) : Fr S w w2 :=
  ⟨h'.os.trans h.os, h'.tape.trans h.tape, h'.output.trans h.output, Nat.le_trans h.size h'.size,
   fun k hk hn => (h'.block k (Nat.lt_of_lt_of_le hk h.size) (fun hq => hn (hs k hk hq))).trans (h.block k hk hn)⟩
theorem Fr.trans (h : Fr S w w1) (h' : Fr S w1 w2) : Fr S w w2 := h.trans' h' fun _ _ q => q
theorem Fr.mono (h : Fr S w w1) (hs : ∀ k, k < w.heap.size → S k → S' k) : Fr S' w w1 := ⟨h.os, h.tape, h.output, h.size, fun k hk hn => h.block k hk fun q => hn (hs k hk q)⟩
theorem Fr.drewN (S : Nat → Prop) (w : World) (n : Nat) : Fr S w (w.drewN n) := by
  refine ⟨?_, ?_, ?_, by rw [drewN_heap]; exact Nat.le_refl _, fun _ _ _ => by rw [drewN_heap]⟩
  all_goals (induction n generalizing w <;> simp_all [World.drewN])
theorem Fr.setCell {b off : Nat} {v : Value} (hS : S b) (w : World) : Fr S w (w.setCell ⟨b, off, none⟩ v) :=
  ⟨rfl, rfl, rfl, by rw [size_setCell]; exact Nat.le_refl _, fun k _ hn => heap_setCell_other fun e => hn (e ▸ hS)⟩
theorem Fr.alloc (S : Nat → Prop) (w : World) (ob : Obj) : Fr S w (w.alloc ob) := ⟨rfl, rfl, rfl, by rw [alloc_size]; omega, fun k hk _ => alloc_old w ob k hk⟩
theorem Fr.below {B : Nat} (h : Fr S w w1) (hB : B ≤ w.heap.size) (hS : ∀ k, k < B → ¬ S k) : Below B w w1 := ⟨h.os, h.tape, h.output, h.size, fun k hk => h.block k (by omega) (hS k hk)⟩
theorem Fr.of_below (h : Below w.heap.size w w1) : Fr S w w1 := ⟨h.os, h.tape, h.output, h.size, fun k hk _ => h.block k hk⟩
end
/-- This one block. -/
def On (b k : Nat) : Prop := k = b
theorem fr_set (b off : Nat) (v : Value) (w : World) : Fr (On b) w (w.setCell ⟨b, off, none⟩ v) := Fr.setCell (S := On b) rfl w
/-- Nothing that was there has turned. -/
abbrev Kp (w w' : World) : Prop := Below w.heap.size w w'
theorem kp_drewN (w : World) (q : Nat) : Kp w (w.drewN q) := (Fr.drewN (fun _ => False) w q).below (Nat.le_refl _) fun _ _ h => h
theorem kp_alloc (w : World) (ob : Obj) : Kp w (w.alloc ob) := (Below.refl _ w).alloc (Nat.le_refl _) ob
theorem kp_trans {a b c : World} (h : Kp a b) (k : Kp b c) : Kp a c := h.trans (k.mono h.size)

theorem Fr.new {S : Nat → Prop} {w w1 : World} {n off : Nat} {v : Value} (h : Fr S w w1) (hn : w.heap.size ≤ n) : Fr S w (w1.setCell ⟨n, off, none⟩ v) :=
  ⟨h.os, h.tape, h.output, by rw [size_setCell]; exact h.size, fun k hk hS => by rw [heap_setCell_other (by omega)]; exact h.block k hk hS⟩
theorem Fr.frAlloc {S : Nat → Prop} {w w1 : World} {ob : Obj} (h : Fr S (w.alloc ob) w1) : Fr S w w1 := (Fr.alloc S w ob).trans h
/-- A byte of a text, nought behind its end. -/
def byteAt (s : ByteArray) (k : Nat) : Nat := ((s.data.toList[k]?).map UInt8.toNat).getD 0
theorem byteAt_lt (s : ByteArray) (k : Nat) : byteAt s k < 256 := by
  unfold byteAt
  cases s.data.toList[k]? with
  | none => simp
  | some b => simpa using b.toNat_lt
theorem byteAt_eq (s : ByteArray) (k : Nat) (h : k < s.size) : byteAt s k = (s[k]).toNat := by
  have : s.data.toList[k]? = some (s[k]) := by
    rw [List.getElem?_eq_getElem (by simpa using h)]; rfl
  unfold byteAt; rw [this]; rfl

theorem cell_at {w : World} {b : Nat} {e : TypeId} {cur : Array Value} {fr : Nat × Nat} (hg : w.heap[b]? = some (.cells cur e fr)) (j : Nat) : w.cell? ⟨b, j, none⟩ = cur[j]? := by simp [World.cell?, hg]
theorem kp_cell {w w1 : World} (k : Kp w w1) {a : Addr} {u : Value} (h : w.cell? a = some u) : w1.cell? a = some u := by
  rw [World.cell?_of_block (k.block _ ?_)]
  · exact h
  · rcases Nat.lt_or_ge a.block w.heap.size with q | q
    · exact q
    · simp [World.cell?, Array.getElem?_eq_none q] at h
theorem addr_add (g j : Nat) : (⟨g, 0, none⟩ : Addr).add j = ⟨g, j, none⟩ := by unfold Addr.add; split <;> simp_all
theorem kp_drew_size (w : World) : w.drew.heap.size = w.heap.size := rfl
theorem kp_drew (w : World) : Kp w w.drew := kp_drewN w 1
section
variable {w w1 : World} {B : Nat} {v : Value}
theorem row_kp {e : TypeId} {size n : Nat} {xs : List Value} (hr : w.ownsRow B e size v n xs) (h : Kp w w1) : w1.ownsRow B e size v n xs := by
  refine ⟨hr.1, ?_⟩
  rcases hr.2 with q | ⟨b, cap, cur, rfl, hb, hg, rest⟩
  · exact .inl q
  · exact .inr ⟨b, cap, cur, rfl, hb, by rw [h.block b (hr.lt b rfl).2]; exact hg, rest⟩
theorem row_fr {e : TypeId} {size n : Nat} {xs : List Value} {S : Nat → Prop} (hr : w.ownsRow B e size v n xs) (h : Fr S w w1) (hn : ∀ j, v.ownBlock = some j → ¬ S j) : w1.ownsRow B e size v n xs := by
  refine ⟨hr.1, ?_⟩
  rcases hr.2 with q | ⟨b, cap, cur, rfl, hb, hg, rest⟩
  · exact .inl q
  · exact .inr ⟨b, cap, cur, rfl, hb, by rw [h.block b (hr.lt b rfl).2 (hn b rfl)]; exact hg, rest⟩
theorem row_lift {e : TypeId} {B' size n : Nat} {xs : List Value} (hr : w.ownsRow B e size v n xs) (h : ∀ j, v.ownBlock = some j → B' ≤ j) : w.ownsRow B' e size v n xs := by
  refine ⟨hr.1, ?_⟩
  rcases hr.2 with q | ⟨b, cap, cur, rfl, hb, hg, rest⟩
  · exact .inl q
  · exact .inr ⟨b, cap, cur, rfl, h b rfl, hg, rest⟩
theorem owns_form {size n : Nat} {e : TypeId} {xs : List Value} (h : w.ownsRow B e size v n xs) : ∃ a cap, v = .slice a n cap ∧ n ≤ cap ∧ cap ≤ maxLen := by
  rcases h.2 with ⟨rfl, rfl⟩ | ⟨b, cap, cur, rfl, _, _, h1, h2, _⟩
  · exact ⟨none, 0, rfl, Nat.le_refl _, by simp [maxLen]⟩
  · exact ⟨_, cap, rfl, h1, h2⟩
end
theorem info_parts {t : TypeId} {z : Option Value} {a b : Nat} (h : (Tryz.prog.info? t).map (fun i => (i.zero, i.size, i.bytes)) = some (z, a, b)) : ∃ i, Tryz.prog.info? t = some i ∧ i.zero = z ∧ i.size = a ∧ i.bytes = b := by
  obtain ⟨i, h1, h2⟩ := Option.map_eq_some_iff.1 h
  simp only [Prod.mk.injEq] at h2
  exact ⟨i, h1, h2.1, h2.2.1, h2.2.2⟩
theorem infoUB : (Tryz.prog.info? 5).map (fun i => (i.zero, i.size, i.bytes)) = some (some (.int .u8 0), 1, 1) := by kernel_rfl
def Lc (T : TypeId) (b : Nat) (l : List Value) (w : World) : Prop := w.heap[b]? = some (.cells l.toArray T (0, 0))
section
variable {T : TypeId} {b : Nat} {l : List Value} {w w1 : World}
theorem Lc.lt (h : Lc T b l w) : b < w.heap.size := (Array.getElem?_eq_some_iff.1 h).1
theorem Lc.cell (h : Lc T b l w) (j : Nat) : w.cell? ⟨b, j, none⟩ = l[j]? := by rw [cell_at h]; exact List.getElem?_toArray
theorem Lc.at (h : Lc T b l w) {j : Nat} {v : Value} (hj : l[j]? = some v) : w.cell? ⟨b, j, none⟩ = some v := by rw [h.cell, hj]
theorem Lc.fz (h : Lc T b l w) (j : Nat) : w.frozen? ⟨b, j, none⟩ = false := by unfold Lc at h; simp [World.frozen?, h]
theorem Lc.new (w : World) (l : List Value) (T : TypeId) : Lc T w.heap.size l (w.alloc (.cells l.toArray T)) := alloc_new w _
theorem Lc.heap (h : Lc T b l w) (he : w1.heap[b]? = w.heap[b]?) : Lc T b l w1 := by unfold Lc at h ⊢; rw [he]; exact h
theorem Lc.kp (h : Lc T b l w) (k : Kp w w1) : Lc T b l w1 := h.heap (k.block b h.lt)
theorem Lc.fr {S : Nat → Prop} (h : Lc T b l w) (k : Fr S w w1) (hn : ¬ S b) : Lc T b l w1 := h.heap (k.block b h.lt hn)
theorem Lc.set (h : Lc T b l w) (j : Nat) (v : Value) : Lc T b (l.set j v) (w.setCell ⟨b, j, none⟩ v) := by
  unfold Lc at h ⊢; rw [heap_setCell h, List.setIfInBounds_toArray]
theorem Lc.other (h : Lc T b l w) {n off : Nat} {v : Value} (hn : n ≠ b) : Lc T b l (w.setCell ⟨n, off, none⟩ v) := h.heap (heap_setCell_other (Ne.symm hn))
theorem kp_new {w0 : World} (k : Kp w0 w) {n off : Nat} {v : Value} (hn : w0.heap.size ≤ n) : Kp w0 (w.setCell ⟨n, off, none⟩ v) :=
  ⟨k.os, k.tape, k.output, by rw [size_setCell]; exact k.size, fun j hj => by rw [heap_setCell_other (by omega)]; exact k.block j hj⟩
theorem kp_more {w0 : World} (k : Kp w0 w) (o : Obj) : Kp w0 (w.alloc o) := kp_trans k (kp_alloc _ _)
end
/-- A list's elements from a place on are these. -/
def sets (l : List Value) : Nat → List Value → List Value
  | _, [] => l
  | o, v :: r => sets (l.set o v) (o + 1) r
section
variable {T : TypeId} {b : Nat} {l : List Value} {w w1 : World}
theorem Lc.sets : ∀ {l : List Value} {w : World} (vs : List Value) (o : Nat), Lc T b l w → Lc T b (sets l o vs) (w.setCells b o vs)
  | l, w, [], o, h => h
  | l, w, v :: r, o, h => Lc.sets r (o + 1) (h.set o v)
theorem fr_sets (b : Nat) : ∀ (vs : List Value) (o : Nat) (w : World), Fr (On b) w (w.setCells b o vs)
  | [], o, w => Fr.refl _ _
  | v :: r, o, w => (fr_set b o v w).trans (fr_sets b r (o + 1) _)
theorem size_sets (b : Nat) : ∀ (vs : List Value) (o : Nat) (w : World), (w.setCells b o vs).heap.size = w.heap.size
  | [], o, w => rfl
  | v :: r, o, w => (size_sets b r (o + 1) _).trans (size_setCell _ _ _)
theorem Lc.range (h : Lc T b l w) (o : Nat) {cs : List Value} (hc : ∀ j v, cs[j]? = some v → l[o + j]? = some v) : w.rangeAt b o cs := fun j v hj => h.at (hc j v hj)
theorem Lc.there (h : Lc T b l w) {o n : Nat} (hn : o + n ≤ l.length) : w.there b o n := fun j hj => ⟨by rw [h.cell, List.getElem?_eq_getElem (by omega)]; rfl, h.fz _⟩
variable {ops : Array Oper} {rest : List Oper} {op : Oper} {a : Act} {Q : Exit → Act → World → Prop}
theorem wpList_load_box (h : Lc T b l w) (o : Nat) (cs : List Value) (hgd : op.guard = none) (ty : TypeId) (x : Operand) (ho : op.op = .load ty x) (hx : a.eval x = .pointer (some ⟨b, o, none⟩)) (hc : (l.drop o).take cs.length = cs)
    (d : TypeDesc) (hu : Tryz.prog.underlying ty = some d) (hd : d.isRow = true) (hi : (Tryz.prog.info? ty).map (·.size) = some cs.length)
    (k : wpList Tryz.prog ops Q rest (a.put op.dst (.agg cs.toArray)) w) : wpList Tryz.prog ops Q (op :: rest) a w := by
  refine wpList_load_mid hgd ty x ho b o hx cs d (h.range o fun j v hj => ?_) hu hd hi k
  have hl := (List.getElem?_eq_some_iff.1 hj).1
  rw [← hc, List.getElem?_take_of_lt hl, List.getElem?_drop] at hj
  exact hj
theorem wpList_store_box (h : Lc T b l w) (o : Nat) (cs : List Value) (hgd : op.guard = none) (ty : TypeId) (x y : Operand) (ho : op.op = .store ty x y) (hx : a.eval x = .pointer (some ⟨b, o, none⟩)) (hy : a.eval y = .agg cs.toArray)
    (hf : o + cs.length ≤ l.length) (hi : (Tryz.prog.info? ty).map (·.size) = some cs.length) (h1 : ∀ v ∈ cs, v.oneCell' = true) {l' : List Value} (hl : Go.Proofs.YtaefeakmlgjonaaGreat.Mz.sets l o cs = l')
    (k : ∀ w', Lc T b l' w' → Fr (On b) w w' → w'.heap.size = w.heap.size → wpList Tryz.prog ops Q rest (a.put op.dst undef) w') : wpList Tryz.prog ops Q (op :: rest) a w := by
  refine wpList_store_mid hgd ty x y ho b o cs.toArray hx hy ?_ (by simpa using hi) (all_oneCell_toArray h1) ?_
  · have : cs.toArray.size = cs.length := by simp
    rw [this]; exact h.there hf
  · have e : cs.toArray.toList = cs := by simp
    rw [e]
    exact k _ (hl ▸ h.sets cs o) (fr_sets _ _ _ _) (size_sets _ _ _ _)
theorem results_box1 {fn : Func} {t : Tmp} {ty : TypeId} (hr : fn.results = #[.cell t ty]) {tmps : Array Value} (hp : tmps.getD t undef = .pointer (some ⟨b, 0, none⟩)) (h : Lc T b l w)
    {d : TypeDesc} (hu : Tryz.prog.underlying ty = some d) (hd : d.isRow = true) (hi : (Tryz.prog.info? ty).map (·.size) = some l.length) :
    (results fn tmps).run Tryz.prog w = .ok (.agg l.toArray) w := by
  have := run_loadVar_mid (P := Tryz.prog) w b 0 ty l d (h.range 0 fun j v hj => by rw [Nat.zero_add]; exact hj) hu hd hi
  rw [Array.getD_eq_getD_getElem?] at hp
  simp [results, hr, hp, asAddr, this]
theorem results_box2 {fn : Func} {t u : Tmp} {ty : TypeId} (hr : fn.results = #[.cell t ty, .tmp u]) {tmps : Array Value} (hp : tmps.getD t undef = .pointer (some ⟨b, 0, none⟩)) (h : Lc T b l w)
    {d : TypeDesc} (hu : Tryz.prog.underlying ty = some d) (hd : d.isRow = true) (hi : (Tryz.prog.info? ty).map (·.size) = some l.length) :
    (results fn tmps).run Tryz.prog w = .ok (.tuple #[.agg l.toArray, tmps.getD u undef]) w := by
  have := run_loadVar_mid (P := Tryz.prog) w b 0 ty l d (h.range 0 fun j v hj => by rw [Nat.zero_add]; exact hj) hu hd hi
  rw [Array.getD_eq_getD_getElem?] at hp
  simp [results, hr, hp, asAddr, this]
theorem results_box3 {fn : Func} {t u v : Tmp} {ty : TypeId} (hr : fn.results = #[.cell t ty, .tmp u, .tmp v]) {tmps : Array Value} (hp : tmps.getD t undef = .pointer (some ⟨b, 0, none⟩)) (h : Lc T b l w)
    {d : TypeDesc} (hu : Tryz.prog.underlying ty = some d) (hd : d.isRow = true) (hi : (Tryz.prog.info? ty).map (·.size) = some l.length) :
    (results fn tmps).run Tryz.prog w = .ok (.tuple #[.agg l.toArray, tmps.getD u undef, tmps.getD v undef]) w := by
  have := run_loadVar_mid (P := Tryz.prog) w b 0 ty l d (h.range 0 fun j v hj => by rw [Nat.zero_add]; exact hj) hu hd hi
  rw [Array.getD_eq_getD_getElem?] at hp
  simp [results, hr, hp, asAddr, this]
end
section
variable {w w1 : World} {u u' : Value} {T T' : TypeId} {m m' : Nat} {l l' : List Value}
theorem row_ne {B n size : Nat} {e : TypeId} {xs : List Value} (hr : w.ownsRow B e size u n xs) (hm : Lc T m l w) (hT : T ≠ e) : u.ownBlock ≠ some m := by
  intro q
  rcases hr.2 with ⟨z, _⟩ | ⟨b, cap, cur, z, hb, hg, _⟩
  · rw [z] at q; cases q
  · rw [z] at q
    simp only [Value.ownBlock, Option.some.injEq] at q
    subst q
    unfold Lc at hm
    rw [hm] at hg
    injection hg with hg
    injection hg with _ hg
    exact hT hg
theorem row_row {B n size B' n' size' : Nat} {e e' : TypeId} {xs xs' : List Value} (hr : w.ownsRow B e size u n xs) (hr' : w.ownsRow B' e' size' u' n' xs') (hT : e ≠ e') : ∀ j, u.ownBlock = some j → u'.ownBlock ≠ some j := by
  intro j q q'
  rcases hr.2 with ⟨z, _⟩ | ⟨b, cap, cur, z, hb, hg, _⟩
  · rw [z] at q; cases q
  rcases hr'.2 with ⟨z', _⟩ | ⟨b', cap', cur', z', hb', hg', _⟩
  · rw [z'] at q'; cases q'
  rw [z] at q
  rw [z'] at q'
  simp only [Value.ownBlock, Option.some.injEq] at q q'
  subst q
  subst q'
  rw [hg] at hg'
  injection hg' with hg'
  injection hg' with _ hg'
  exact hT hg'
theorem lc_ne (h : Lc T m l w) (h' : Lc T' m' l' w) (hT : T ≠ T') : m ≠ m' := by
  rintro rfl
  unfold Lc at h h'
  rw [h] at h'
  injection h' with h'
  injection h' with _ h'
  exact hT h'
end
/-- Bytes as they lie in memory. -/
def bcs (l : List UInt8) : List Value := l.map fun b => Value.int .u8 b.toNat
theorem bcs_len (l : List UInt8) : (bcs l).length = l.length := by simp [bcs]
theorem bcs_append (a b : List UInt8) : bcs (a ++ b) = bcs a ++ bcs b := by simp [bcs]
theorem bcs_one (l : List UInt8) : ∀ u ∈ bcs l, u.oneCell' = true := fun u hu => by
  obtain ⟨b, _, rfl⟩ := List.mem_map.1 hu
  rfl
theorem drop_at {S : ByteArray} {i : Nat} (h : i < S.size) : S.data.toList.drop i = S[i] :: S.data.toList.drop (i + 1) := by
  rw [List.drop_eq_getElem_cons (by simpa using h)]
  rfl
end Go.Proofs.YtaefeakmlgjonaaGreat.Mz
/- A map whose keys are bytes, as a function from a byte to what stands at it; a range over one that is under way. -/
namespace Go.Proofs.YtaefeakmlgjonaaGreat.Mz
open Go.ChangeShapes Go.WideShapes Go.ChangeAt Go.RowKit Go.Maps Go.MapKept
open Go.ChangeMaps (setBlock heap_setBlock_same heap_setBlock_other modify_eq_set)
set_option linter.unusedVariables false
set_option linter.unusedSimpArgs false
theorem keyUB : Keyed Tryz.prog 5 := int_keyed Tryz.underlying5
theorem keyB {x : Int} (h0 : 0 ≤ x) (h1 : x < 256) : keyOf Tryz.prog 5 (.int .u8 x) = some (.int .u8 x) :=
  keyOf_int_mk Tryz.underlying5 (by
    show (decide (IntKind.u8.min ≤ x) && decide (x ≤ IntKind.u8.max)) = true
    have e1 : IntKind.u8.min = 0 := by decide
    have e2 : IntKind.u8.max = 255 := by decide
    rw [e1, e2, Bool.and_eq_true, decide_eq_true_eq, decide_eq_true_eq]; omega)
/-- The entries say f. -/
structure Hld (es : Array MapEntry) (f : Int → Option Value) : Prop where
  on : ∀ e ∈ es.toList, ∃ x, e.key = .int .u8 x ∧ 0 ≤ x ∧ x < 256 ∧ f x = some e.val
  at_ : ∀ x v, f x = some v → ∃ e ∈ es.toList, e.key = .int .u8 x ∧ e.val = v
/-- At block b lies a map that says f. -/
def Mp (b : Nat) (f : Int → Option Value) (w : World) : Prop := ∃ es clock, w.heap[b]? = some (.map es clock) ∧ Stamped es clock ∧ Hld es f
def upd (f : Int → Option Value) (x : Int) (v : Option Value) : Int → Option Value := fun y => if y = x then v else f y
section
variable {b r : Nat} {f : Int → Option Value} {w w1 : World}
theorem Mp.lt (h : Mp b f w) : b < w.heap.size := by obtain ⟨es, c, h, _⟩ := h; exact (Array.getElem?_eq_some_iff.1 h).1
theorem Mp.heap (h : Mp b f w) (he : w1.heap[b]? = w.heap[b]?) : Mp b f w1 := by obtain ⟨es, c, h, r⟩ := h; exact ⟨es, c, he.trans h, r⟩
theorem Mp.kp (h : Mp b f w) (k : Kp w w1) : Mp b f w1 := h.heap (k.block b h.lt)
theorem Mp.fr {S : Nat → Prop} (h : Mp b f w) (k : Fr S w w1) (hn : ¬ S b) : Mp b f w1 := h.heap (k.block b h.lt hn)
theorem Mp.ne {T : TypeId} {t : Nat} {l : List Value} (h : Mp b f w) (k : Lc T t l w) : t ≠ b := by
  rintro rfl; obtain ⟨es, c, h, _⟩ := h; unfold Lc at k; rw [k] at h; cases h
theorem Mp.range (h : Mp b f w) {x : Int} {v : Value} (hx : f x = some v) : 0 ≤ x ∧ x < 256 := by
  obtain ⟨es, c, _, _, H⟩ := h
  obtain ⟨e, he, hk, _⟩ := H.at_ x v hx
  obtain ⟨y, hy, h0, h1, _⟩ := H.on e he
  rw [hk] at hy; cases hy; exact ⟨h0, h1⟩
theorem Hld.one {es : Array MapEntry} {clock : Nat} (H : Hld es f) (S : Stamped es clock) {e e' : MapEntry} (h : e ∈ es.toList) (h' : e' ∈ es.toList) (hk : e.key = e'.key) : e = e' := entry_eq_of_key ((stamped_iff es clock).1 S).2.2 h h' hk
theorem at_key {es : Array MapEntry} {c : Nat} (S : Stamped es c) {i j : Nat} {e e' : MapEntry} (hi : es.toList[i]? = some e) (hj : es.toList[j]? = some e') (hk : e.key = e'.key) : i = j := by
  have hp := ((stamped_iff es c).1 S).2.2
  rw [List.pairwise_iff_getElem] at hp
  obtain ⟨li, rfl⟩ := List.getElem?_eq_some_iff.1 hi
  obtain ⟨lj, rfl⟩ := List.getElem?_eq_some_iff.1 hj
  rcases Nat.lt_trichotomy i j with q | q | q
  · exact absurd hk (hp i j li lj q)
  · exact q
  · exact absurd hk.symm (hp j i lj li q)
theorem Hld.keys {es : Array MapEntry} (H : Hld es f) : ∀ e ∈ es.toList, ∃ l, keyOf Tryz.prog 5 e.key = some l := fun e he => by
  obtain ⟨x, hx, h0, h1, _⟩ := H.on e he
  exact ⟨_, by rw [hx]; exact keyB h0 h1⟩
theorem fr_block (w : World) (b : Nat) (o : Obj) (hb : b < w.heap.size) : Fr (On b) w (setBlock w b o) :=
  ⟨rfl, rfl, rfl, by simp [setBlock], fun k hk hn => by unfold On at hn; simp [setBlock, Array.getElem?_setIfInBounds, Ne.symm hn]⟩
/-- Looked up. -/
theorem Mp.look (h : Mp b f w) {x : Int} (h0 : 0 ≤ x) (h1 : x < 256) {t e : TypeId} (ht : Tryz.prog.underlying t = some (.map 5 e)) {z : Value} (hz : (zeroValue e).run Tryz.prog w = .ok z w) (ok : Bool) :
    (Instr.lookup t (.map (some b)) (.int .u8 x) ok).run Tryz.prog w = .ok (if ok then .tuple #[(f x).getD z, .bool (f x).isSome] else (f x).getD z) w := by
  obtain ⟨es, c, hb, S, H⟩ := h
  rcases keyUB.find w (keyB h0 h1) es.toList H.keys with ⟨h2, h3⟩ | ⟨j, e0, h2, h3, h4⟩
  · have hn : f x = none := by
      cases q : f x with
      | none => rfl
      | some v => obtain ⟨e, he, hk, _⟩ := H.at_ x v q; exact absurd hk (h3 e he)
    simp [Instr.lookup, run_underlying ht, MapKept.run_getObj_map hb, keyUB.check w _ (keyB h0 h1), h2, hz, Result.andThen, hn]
  · have hs : f x = some e0.val := by
      obtain ⟨y, hy, _, _, hv⟩ := H.on e0 (List.mem_of_getElem? h3)
      rw [h4] at hy; cases hy; exact hv
    simp [Instr.lookup, run_underlying ht, MapKept.run_getObj_map hb, keyUB.check w _ (keyB h0 h1), h2, Result.andThen, hs]
/-- Stored: the entries behind it, and what has become of each. -/
theorem store_who {es : Array MapEntry} {c : Nat} (hb : w.heap[b]? = some (.map es c)) (S : Stamped es c) (H : Hld es f) {x : Int} (h0 : 0 ≤ x) (h1 : x < 256) {t e : TypeId} (ht : Tryz.prog.underlying t = some (.map 5 e)) (v : Value) :
    ∃ es' c', (Instr.mapUpdate t (.map (some b)) (.int .u8 x) v).run Tryz.prog w = .ok () (setBlock w b (.map es' c')) ∧ Stamped es' c' ∧ Hld es' (upd f x (some v)) ∧
      (f x ≠ none → c' = c ∧ es'.toList.map (·.born) = es.toList.map (·.born) ∧ es'.toList.map (·.key) = es.toList.map (·.key)) := by
  rcases keyUB.find w (keyB h0 h1) es.toList H.keys with ⟨h2, h3⟩ | ⟨j, e0, h2, h3, h4⟩
  · refine ⟨es.push ⟨.int .u8 x, v, c⟩, c + 1, ?_, stamped_push S h3, ⟨fun e he => ?_, fun y u hy => ?_⟩, fun hn => ?_⟩
    · simp [Instr.mapUpdate, run_underlying ht, MapKept.run_getObj_map hb, keyUB.check w false (keyB h0 h1), h2, MapKept.run_setObj_map _ hb, Result.andThen, setBlock]
    · simp only [Array.toList_push, List.mem_append, List.mem_singleton] at he
      rcases he with he | rfl
      · obtain ⟨y, hy, y0, y1, hv⟩ := H.on e he
        have : y ≠ x := fun q => h3 e he (by rw [hy, q])
        exact ⟨y, hy, y0, y1, by unfold upd; rw [if_neg this]; exact hv⟩
      · exact ⟨x, rfl, h0, h1, by unfold upd; rw [if_pos rfl]⟩
    · unfold upd at hy
      split at hy
      · rename_i q; subst q; cases hy
        exact ⟨⟨.int .u8 y, v, c⟩, by simp, rfl, rfl⟩
      · obtain ⟨e, he, r⟩ := H.at_ y u hy
        exact ⟨e, by simp [he], r⟩
    · exfalso
      cases q : f x with
      | none => exact hn q
      | some u => obtain ⟨e, he, hk, _⟩ := H.at_ x u q; exact h3 e he hk
  · have hj : es[j]? = some e0 := by simpa using h3
    have hjl : j < es.toList.length := (List.getElem?_eq_some_iff.1 h3).1
    have hm0 : e0 ∈ es.toList := List.mem_of_getElem? h3
    have hlist : (es.modify j (fun e' => { e' with key := .int .u8 x, val := v })).toList = es.toList.set j { e0 with key := .int .u8 x, val := v } := by rw [Array.toList_modify, modify_eq_set _ _ _ _ h3]
    refine ⟨es.modify j (fun e' => { e' with key := .int .u8 x, val := v }), c, ?_, stamped_modify S j _ (fun _ _ => rfl) (fun e' _ he' => by rw [hj] at he'; cases he'; exact h4.symm), ⟨fun e he => ?_, fun y u hy => ?_⟩, fun _ => ⟨rfl, ?_, ?_⟩⟩
    · have hk : (Instr.keyThatStays e0.key (.int .u8 x)).run Tryz.prog w = .ok (.int .u8 x) w := by rw [h4]; exact keyUB.stays w (keyB h0 h1)
      simp [Instr.mapUpdate, run_underlying ht, MapKept.run_getObj_map hb, keyUB.check w false (keyB h0 h1), h2, hj, hk, MapKept.run_setObj_map _ hb, Result.andThen, setBlock]
    · rw [hlist] at he
      obtain ⟨i, hi⟩ := List.getElem?_of_mem he
      by_cases q : i = j
      · subst q
        rw [List.getElem?_set_self hjl] at hi
        cases hi
        exact ⟨x, rfl, h0, h1, by unfold upd; rw [if_pos rfl]⟩
      · rw [List.getElem?_set_ne (Ne.symm q)] at hi
        obtain ⟨y, hy, y0, y1, hv⟩ := H.on e (List.mem_of_getElem? hi)
        have : y ≠ x := fun p => q (at_key S hi h3 (by rw [hy, h4, p]))
        exact ⟨y, hy, y0, y1, by unfold upd; rw [if_neg this]; exact hv⟩
    · rw [hlist]
      unfold upd at hy
      split at hy
      · rename_i q; subst q; cases hy
        exact ⟨{ e0 with key := .int .u8 y, val := v }, List.mem_of_getElem? (List.getElem?_set_self hjl), rfl, rfl⟩
      · rename_i q
        obtain ⟨e, he, hk, hu⟩ := H.at_ y u hy
        obtain ⟨i, hi⟩ := List.getElem?_of_mem he
        have hij : i ≠ j := fun p => by
          subst p; rw [h3] at hi; cases hi; rw [h4] at hk; cases hk; exact q rfl
        exact ⟨e, List.mem_of_getElem? (by rw [List.getElem?_set_ne (Ne.symm hij)]; exact hi), hk, hu⟩
    · rw [hlist, List.map_set]
      refine List.ext_getElem? fun i => ?_
      by_cases q : i = j
      · subst q; rw [List.getElem?_set_self (by simpa using hjl), List.getElem?_map, h3]; rfl
      · rw [List.getElem?_set_ne (Ne.symm q)]
    · rw [hlist, List.map_set]
      refine List.ext_getElem? fun i => ?_
      by_cases q : i = j
      · subst q; rw [List.getElem?_set_self (by simpa using hjl), List.getElem?_map, h3, Option.map_some, h4]
      · rw [List.getElem?_set_ne (Ne.symm q)]
/-- Stored. -/
theorem Mp.store (h : Mp b f w) {x : Int} (h0 : 0 ≤ x) (h1 : x < 256) {t e : TypeId} (ht : Tryz.prog.underlying t = some (.map 5 e)) (v : Value) :
    ∃ w', (Instr.mapUpdate t (.map (some b)) (.int .u8 x) v).run Tryz.prog w = .ok () w' ∧ Mp b (upd f x (some v)) w' ∧ Fr (On b) w w' ∧ w'.heap.size = w.heap.size := by
  have hl := h.lt
  obtain ⟨es, c, hb, S, H⟩ := h
  obtain ⟨es', c', hr, S', H', _⟩ := store_who hb S H h0 h1 ht v
  exact ⟨_, hr, ⟨es', c', heap_setBlock_same hb _, S', H'⟩, fr_block w b _ hl, by simp [setBlock]⟩
/-- Taken out: who is left. -/
theorem drop_who {es : Array MapEntry} {c : Nat} (hb : w.heap[b]? = some (.map es c)) (S : Stamped es c) (H : Hld es f) {x : Int} (h0 : 0 ≤ x) (h1 : x < 256) {t e ty : TypeId} (ht : Tryz.prog.underlying t = some (.map 5 e)) :
    ∃ es', (Builtin.delete_ #[t, 5] ty #[.map (some b), .int .u8 x]).run Tryz.prog w = .ok (.tuple #[]) (setBlock w b (.map es' c)) ∧ Stamped es' c ∧ Hld es' (upd f x none) ∧ es'.toList.Sublist es.toList := by
  rcases keyUB.find w (keyB h0 h1) es.toList H.keys with ⟨h2, h3⟩ | ⟨j, e0, h2, h3, h4⟩
  · refine ⟨es, ?_, S, ⟨fun e he => ?_, fun y u hy => ?_⟩, List.Sublist.refl _⟩
    · simp [Builtin.delete_, run_underlying ht, MapKept.run_getObj_map hb, keyUB.check w _ (keyB h0 h1), h2, MapKept.run_setObj_map _ hb, Result.andThen, setBlock]
    · obtain ⟨y, hy, y0, y1, hv⟩ := H.on e he
      have : y ≠ x := fun q => h3 e he (by rw [hy, q])
      exact ⟨y, hy, y0, y1, by unfold upd; rw [if_neg this]; exact hv⟩
    · unfold upd at hy
      split at hy
      · cases hy
      · exact H.at_ y u hy
  · have hjl : j < es.toList.length := (List.getElem?_eq_some_iff.1 h3).1
    have hjs : j < es.size := by simpa using hjl
    have hsub : (es.eraseIdxIfInBounds j).toList = es.toList.eraseIdx j := by
      unfold Array.eraseIdxIfInBounds
      rw [dif_pos hjs]
      simp
    refine ⟨es.eraseIdxIfInBounds j, ?_, stamped_erase S j, ⟨fun e he => ?_, fun y u hy => ?_⟩, by rw [hsub]; exact List.eraseIdx_sublist _ _⟩
    · simp [Builtin.delete_, run_underlying ht, MapKept.run_getObj_map hb, keyUB.check w _ (keyB h0 h1), h2, MapKept.run_setObj_map _ hb, Result.andThen, setBlock]
    · rw [hsub, List.mem_eraseIdx_iff_getElem?] at he
      obtain ⟨i, hne, hi⟩ := he
      obtain ⟨y, hy, y0, y1, hv⟩ := H.on e (List.mem_of_getElem? hi)
      have : y ≠ x := fun p => hne (at_key S hi h3 (by rw [hy, h4, p]))
      exact ⟨y, hy, y0, y1, by unfold upd; rw [if_neg this]; exact hv⟩
    · unfold upd at hy
      split at hy
      · cases hy
      · rename_i q
        obtain ⟨e, he, hk, hu⟩ := H.at_ y u hy
        obtain ⟨i, hi⟩ := List.getElem?_of_mem he
        have hij : i ≠ j := fun p => by
          subst p; rw [h3] at hi; cases hi; rw [h4] at hk; cases hk; exact q rfl
        exact ⟨e, by rw [hsub, List.mem_eraseIdx_iff_getElem?]; exact ⟨i, hij, hi⟩, hk, hu⟩
/-- A range over the map at b is under way, its iterator at r: 'left' are the keys that are still to come, c of them. -/
def Rgg (b r : Nat) (f : Int → Option Value) (left : Int → Bool) (c : Nat) (w : World) : Prop :=
  ∃ es clock since seen c0, w.heap[b]? = some (.map es clock) ∧ Stamped es clock ∧ Hld es f ∧ w.heap[r]? = some (.mapIter (some b) since seen c0) ∧ (∀ x ∈ es.toList, x.born < since) ∧ (leftOf es seen).size = c ∧
    (∀ e ∈ es.toList, ∀ x, e.key = .int .u8 x → left x = !seen.contains e.born) ∧ (∀ x, left x = true → f x ≠ none) ∧ since ≤ c0 ∧ since ≤ clock
variable {left : Int → Bool} {c : Nat}
theorem Rgg.map (h : Rgg b r f left c w) : Mp b f w := by obtain ⟨es, cl, _, _, _, hb, S, H, _⟩ := h; exact ⟨es, cl, hb, S, H⟩
theorem Rgg.ne (h : Rgg b r f left c w) : r ≠ b := by
  obtain ⟨es, cl, s, q, c0, hb, _, _, hr, _⟩ := h
  intro e; rw [e, hb] at hr; cases hr
theorem Rgg.lt (h : Rgg b r f left c w) : r < w.heap.size := by obtain ⟨es, cl, s, q, c0, hb, _, _, hr, _⟩ := h; exact (Array.getElem?_eq_some_iff.1 hr).1
theorem Rgg.heap (h : Rgg b r f left c w) (hb : w1.heap[b]? = w.heap[b]?) (hr : w1.heap[r]? = w.heap[r]?) : Rgg b r f left c w1 := by
  obtain ⟨es, cl, s, q, c0, h1, h2, h3, h4, rest⟩ := h
  exact ⟨es, cl, s, q, c0, hb.trans h1, h2, h3, hr.trans h4, rest⟩
theorem Rgg.kp (h : Rgg b r f left c w) (k : Kp w w1) : Rgg b r f left c w1 := h.heap (k.block b h.map.lt) (k.block r h.lt)
theorem Rgg.left_eq (h : Rgg b r f left c w) : w.rangeLeft b r = c := by
  obtain ⟨es, cl, s, q, c0, hb, _, _, hr, _, hc, _⟩ := h
  simp only [World.rangeLeft, hb, hr]
  exact hc
/-- A range begins. -/
theorem Mp.ranged (h : Mp b f w) {t e : TypeId} (ht : Tryz.prog.underlying t = some (.map 5 e)) :
    ∃ w' c, (Instr.range t (.map (some b))).run Tryz.prog w = .ok (.pointer (some ⟨w.heap.size, 0, none⟩)) w' ∧ Rgg b w.heap.size f (fun x => (f x).isSome) c w' ∧ Kp w w' ∧ w'.heap.size = w.heap.size + 1 := by
  have hlt := h.lt
  obtain ⟨es, cl, hb, S, H⟩ := h
  refine ⟨_, _, run_range_map w t 5 e b es cl ht hb, ⟨es, cl, cl, #[], cl, (alloc_old _ _ b hlt).trans hb, S, H, alloc_new _ _, ((stamped_iff es cl).1 S).1, rfl, fun e he x hx => ?_, fun x hx => ?_, Nat.le_refl _, Nat.le_refl _⟩, kp_alloc _ _, by rw [alloc_size]⟩
  · obtain ⟨y, hy, _, _, hv⟩ := H.on e he
    rw [hx] at hy; cases hy
    simp [hv]
  · intro q; simp [q] at hx
/-- One more comes, or none is left. -/
theorem Rgg.next (h : Rgg b r f left c w) (ty : TypeId) :
    ((∀ x, left x = false) ∧ (Instr.next (.pointer (some ⟨r, 0, none⟩)) false ty).run Tryz.prog w = .ok (.tuple #[.bool false]) w) ∨
    ∃ x v w' c', 0 ≤ x ∧ x < 256 ∧ left x = true ∧ f x = some v ∧ (Instr.next (.pointer (some ⟨r, 0, none⟩)) false ty).run Tryz.prog w = .ok (.tuple #[.bool true, .int .u8 x, v]) w' ∧
      Rgg b r f (fun y => left y && !decide (y = x)) c' w' ∧ c' < c ∧ Fr (On r) w w' ∧ w'.heap.size = w.heap.size ∧ (Instr.entry (.pointer (some ⟨r, 0, none⟩))).run Tryz.prog w' = .ok (.tuple #[.int .u8 x, v]) w' := by
  have hne := h.ne
  have hrl := h.lt
  obtain ⟨es, cl, since, seen, c0, hb, S, H, hr, hold, rfl, hl1, hl2, hsc, hsk⟩ := h
  rcases run_next_at (P := Tryz.prog) w ty r b since c0 seen es cl hr hb hold hsc with ⟨h0, hrun⟩ | ⟨e, he, w1, hal, hrun⟩
  · refine Or.inl ⟨fun x => ?_, hrun⟩
    cases hx : left x with
    | false => rfl
    | true =>
      cases q : f x with
      | none => exact absurd q (hl2 x hx)
      | some v =>
        obtain ⟨e, he, hk, _⟩ := H.at_ x v q
        rw [hl1 e he x hk, all_seen es seen h0 e he] at hx; cases hx
  · obtain ⟨hem, hes⟩ := mem_left he
    obtain ⟨x, hx, x0, x1, hv⟩ := H.on e hem
    have hr1 : w1.heap[r]? = some (.mapIter (some b) since seen c0) := by rcases hal with rfl | rfl <;> exact hr
    have hb1 : w1.heap[b]? = some (.map es cl) := by rcases hal with rfl | rfl <;> exact hb
    have hset := heap_set (o' := .mapIter (some b) since (seen.push e.born) cl) hr1
    have hb' : (setBlock w1 r (.mapIter (some b) since (seen.push e.born) cl)).heap[b]? = some (.map es cl) := (hset.2 b (fun e1 => hne e1.symm)).trans hb1
    rw [hx] at hrun
    refine Or.inr ⟨x, e.val, _, _, x0, x1, by rw [hl1 e hem x hx, hes]; rfl, hv, hrun, ⟨es, cl, since, seen.push e.born, cl, hb', S, H, hset.1, hold, rfl, fun e' he' y hy => ?_, fun y hy => hl2 y (by simp at hy; exact hy.1), hsk, hsk⟩, left_shrinks es seen e he, ?_, ?_, ?_⟩
    · show (left y && !decide (y = x)) = _
      rw [hl1 e' he' y hy, contains_push]
      by_cases q : y = x
      · subst q
        obtain rfl := H.one S he' hem (by rw [hy, hx])
        simp
      · have : (e'.born == e.born) = false := by
          simp only [beq_eq_false_iff_ne]
          intro p
          obtain rfl := born_inj ((stamped_iff es cl).1 S).2.1 he' hem p
          rw [hy] at hx; cases hx; exact q rfl
        simp [q, this]
    · rcases hal with rfl | rfl <;> exact ⟨rfl, rfl, rfl, by simp [setBlock], fun i _ hi => hset.2 i (fun e1 => hi (by rw [e1]; rfl))⟩
    · rcases hal with rfl | rfl <;> simp [setBlock]
    · have := run_entry_at (P := Tryz.prog) _ r b since seen es cl e hset.1 hb' hem ((stamped_iff es cl).1 S).2.1
      rw [hx] at this
      exact this
/-- Of a key that is there another value is stored. -/
theorem Rgg.store (h : Rgg b r f left c w) {x : Int} (h0 : 0 ≤ x) (h1 : x < 256) (hx : f x ≠ none) {t e : TypeId} (ht : Tryz.prog.underlying t = some (.map 5 e)) (v : Value) :
    ∃ w', (Instr.mapUpdate t (.map (some b)) (.int .u8 x) v).run Tryz.prog w = .ok () w' ∧ Rgg b r (upd f x (some v)) left c w' ∧ Fr (On b) w w' ∧ w'.heap.size = w.heap.size := by
  have hl := h.map.lt
  have hne := h.ne
  obtain ⟨es, cl, since, seen, c0, hb, S, H, hr, hold, rfl, hl1, hl2, hsc, hsk⟩ := h
  obtain ⟨es', c', hrun, S', H', hw⟩ := store_who hb S H h0 h1 ht v
  obtain ⟨rfl, hbn, hks⟩ := hw hx
  have hat : ∀ e' ∈ es'.toList, ∃ e ∈ es.toList, e.key = e'.key ∧ e.born = e'.born := by
    intro e' he'
    obtain ⟨i, hi⟩ := List.getElem?_of_mem he'
    have q1 := congrArg (fun l => l[i]?) hbn
    have q2 := congrArg (fun l => l[i]?) hks
    simp only [List.getElem?_map, hi, Option.map_some] at q1 q2
    cases q : es.toList[i]? with
    | none => rw [q] at q1; cases q1
    | some e => rw [q] at q1 q2; simp only [Option.map_some, Option.some.injEq] at q1 q2; exact ⟨e, List.mem_of_getElem? q, q2.symm, q1.symm⟩
  refine ⟨_, hrun, ⟨es', c', since, seen, c0, heap_setBlock_same hb _, S', H', (heap_setBlock_other hb _ hne).trans hr, fun e' he' => ?_, ?_, fun e' he' y hy => ?_, fun y hy => ?_, hsc, hsk⟩, fr_block w b _ hl, by simp [setBlock]⟩
  · obtain ⟨e, he, _, q⟩ := hat e' he'; rw [← q]; exact hold e he
  · have e1 : ∀ a : Array MapEntry, (leftOf a seen).size = ((a.toList.map (·.born)).filter fun n => !seen.contains n).length := fun a => by
      unfold leftOf
      rw [List.filter_map, List.length_map, ← Array.length_toList, Array.toList_filter]
      rfl
    rw [e1, e1, hbn]
  · obtain ⟨e, he, q1, q2⟩ := hat e' he'
    rw [← q2]; exact hl1 e he y (by rw [q1]; exact hy)
  · unfold upd; split
    · simp
    · exact hl2 y hy
/-- A key that is no longer to come is taken out. -/
theorem Rgg.drop (h : Rgg b r f left c w) {x : Int} (h0 : 0 ≤ x) (h1 : x < 256) (hx : left x = false) {t e : TypeId} (ht : Tryz.prog.underlying t = some (.map 5 e)) (ty : TypeId) :
    ∃ w' c', (Builtin.delete_ #[t, 5] ty #[.map (some b), .int .u8 x]).run Tryz.prog w = .ok (.tuple #[]) w' ∧ Rgg b r (upd f x none) left c' w' ∧ c' ≤ c ∧ Fr (On b) w w' ∧ w'.heap.size = w.heap.size := by
  have hl := h.map.lt
  have hne := h.ne
  obtain ⟨es, cl, since, seen, c0, hb, S, H, hr, hold, rfl, hl1, hl2, hsc, hsk⟩ := h
  obtain ⟨es', hrun, S', H', hsub⟩ := drop_who (ty := ty) hb S H h0 h1 ht
  refine ⟨_, _, hrun, ⟨es', cl, since, seen, c0, heap_setBlock_same hb _, S', H', (heap_setBlock_other hb _ hne).trans hr, fun e' he' => hold e' (hsub.subset he'), rfl, fun e' he' y hy => hl1 e' (hsub.subset he') y hy, fun y hy => ?_, hsc, hsk⟩, ?_, fr_block w b _ hl, by simp [setBlock]⟩
  · unfold upd; split
    · rename_i q; subst q; rw [hx] at hy; cases hy
    · exact hl2 y hy
  · have e1 : ∀ a : Array MapEntry, (leftOf a seen).size = (a.toList.filter fun e => !seen.contains e.born).length := fun a => by
      unfold leftOf
      rw [← Array.toList_filter, Array.length_toList]
    rw [e1, e1]
    exact (hsub.filter _).length_le
end
end Go.Proofs.YtaefeakmlgjonaaGreat.Mz
