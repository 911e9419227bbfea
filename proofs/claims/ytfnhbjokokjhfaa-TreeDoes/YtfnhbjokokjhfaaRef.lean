/- The document's answer: a list; its calls New, Len, Bytes, Get, Part, Splice, Insert, Delete, Set. -/
import Derived.Test.YtfnhbjokokjhfaaLaw1
import Derived.Laws.AppendOwnNone
namespace Go.Proofs.Ytfnhbjokokjhfaa
open Go.ChangeShapes Go.WideShapes Go.ChangeAt Go.RowKit
set_option linter.unusedVariables false
def refOwn (r : Nat) : Own := fun k => if k = r then .tree else .free
/-- The list's own slice: nil, or at the head of a block that is no tree's and not the list's struct. -/
def Mine (o : Own) (r : Nat) (w : World) (v : Value) (ls : List ByteArray) : Prop :=
  (v = .slice none 0 0 ∧ ls = []) ∨ ∃ b cap, v = .slice (some ⟨b, 0, none⟩) ls.length cap ∧ ls.length ≤ cap ∧ cap ≤ maxLen ∧ b < w.heap.size ∧ o b = .free ∧ b ≠ r ∧ ∀ (j : Nat) y, ls[j]? = some y → w.cell? ⟨b, j, none⟩ = some (.string y)
structure Rf (o : Own) (w : World) (r : Nat) (ls : List ByteArray) : Prop where
  free : o r = .free
  ex : ∃ lv, w.heap[r]? = some (.cells #[lv] 52 (0, 0)) ∧ Mine o r w lv ls
section
variable {o o' : Own} {w w' : World} {r : Nat} {ls : List ByteArray}
theorem Rf.lt (h : Rf o w r ls) : r < w.heap.size := by
  obtain ⟨lv, h1, _⟩ := h.ex; exact (Array.getElem?_eq_some_iff.1 h1).1
theorem Mine.keeps {v : Value} (h : Mine o r w v ls) (k : Keeps o o' w w') : Mine o' r w' v ls := by
  rcases h with h | ⟨b, cap, h1, h2, h3, h4, h5, h6, h7⟩
  · exact .inl h
  · refine .inr ⟨b, cap, h1, h2, h3, Nat.lt_of_lt_of_le h4 k.size, k.own b h4 h5, h6, fun j y hj => ?_⟩
    have := h7 j y hj
    simp only [World.cell?, k.block b h4 h5] at this ⊢; exact this
theorem Rf.keeps (h : Rf o w r ls) (k : Keeps o o' w w') : Rf o' w' r ls := by
  have hlt := h.lt
  obtain ⟨lv, h1, h2⟩ := h.ex
  exact ⟨k.own r hlt h.free, lv, by rw [k.block r hlt h.free]; exact h1, h2.keeps k⟩
theorem Rf.under (h : Rf o w r ls) (hb : Below w.heap.size w w') : Rf o w' r ls :=
  h.keeps ⟨hb.os, hb.tape, hb.output, hb.size, fun k hk _ => hb.block k hk, fun _ _ e => e⟩
theorem Mine.form {v : Value} (h : Mine o r w v ls) : ∃ a cap, v = .slice a ls.length cap ∧ ls.length ≤ cap ∧ cap ≤ maxLen := by
  rcases h with ⟨rfl, rfl⟩ | ⟨b, cap, h1, h2, h3, _⟩
  · exact ⟨none, 0, rfl, by simp, by simp [maxLen]⟩
  · exact ⟨_, cap, h1, h2, h3⟩
theorem Mine.lies {v : Value} (h : Mine o r w v ls) : Lies nobody w v ls := by
  rcases h with ⟨rfl, rfl⟩ | ⟨b, cap, h1, h2, h3, h4, h5, h6, h7⟩
  · exact lies_nil
  · exact ⟨_, cap, h1, h2, h3, .inr ⟨b, 0, rfl, h4, rfl, fun j y hj => by rw [Nat.zero_add]; exact h7 j y hj⟩⟩
theorem rlen_any (h : Rf o w r ls) : Calls Try.prog 25 #[.pointer (some ⟨r, 0, none⟩)] w fun e w' => e = .returned (.int .i64 ls.length) ∧ w' = w := by
  obtain ⟨lv, h1, h2⟩ := h.ex
  have c0 : w.cell? ⟨r, 0, none⟩ = some lv := by simp [World.cell?, h1]
  obtain ⟨a, cap, rfl, _, _⟩ := h2.form
  clear h h1 h2
  go_enter Try.func25, Try.ntmps25
  go_wp2_with fail
  go_ret
  exact ⟨rfl, rfl⟩
theorem rbytes_any (h : Rf o w r ls) (hl : ls.length < 2 ^ 40) (hb : sizes ls < 2 ^ 62) : Calls Try.prog 26 #[.pointer (some ⟨r, 0, none⟩)] w fun e w' => e = .returned (.int .i64 (sizes ls)) ∧ ∃ q, w' = w.drewN q := by
  obtain ⟨lv, h1, h2⟩ := h.ex
  have c0 : w.cell? ⟨r, 0, none⟩ = some lv := by simp [World.cell?, h1]
  obtain ⟨a, cap, rfl, x1, x2⟩ := h2.form
  have HM : Hid (Lies nobody w (.slice a ls.length cap) ls) := h2.lies
  obtain ⟨L, hL⟩ : ∃ L, ls.length = L := ⟨_, rfl⟩
  have HL : Hid (ls.length = L) := hL
  have HB : Hid (sizes ls < 2 ^ 62) := hb
  rw [hL] at c0 x1 HM hl
  unfold maxLen at x2
  clear h h1 h2 hL hb
  go_enter Try.func26, Try.ntmps26
  go_wp2_with fail
  go_loopw [3, 4] (fun vs vi wr => ∃ i : Nat, i ≤ L ∧ vi = .int .i64 i ∧ vs = .int .i64 (sizes (ls.take i)) ∧ ∃ q, wr = w.drewN q) (fun _ vi _ => L - (intOf vi).toNat)
  case atStart => exact ⟨0, Nat.zero_le _, rfl, rfl, 0, rfl⟩
  case round =>
    obtain ⟨i, hi, rfl, rfl, q, rfl⟩ := hrel
    by_cases hlt : i < L
    · have hx : ls[i]? = some (ls[i]'(by rw [HL.out]; exact hlt)) := List.getElem?_eq_getElem _
      generalize ls[i]'(by rw [HL.out]; exact hlt) = x at hx
      obtain ⟨b, off, rfl, e1⟩ := HM.out.cell hx
      have HS : Hid (sizes (ls.take (i + 1)) = sizes (ls.take i) + x.size) := sizes_succ hx
      have hbd : sizes (ls.take i) + x.size < 2 ^ 62 := by have := sizes_take ls (i + 1); rw [HS.out] at this; have := HB.out; omega
      have hd : decide ((i : Int) < (L : Int)) = true := by simp; omega
      clear hx
      generalize sizes (ls.take i) = S at *
      go_wp2_with fail
      go_roundw
      case rel => exact ⟨i + 1, by omega, by go_num, by rw [HS.out]; go_num, _, rfl⟩
      case measure => simp [intOf]; omega
    · obtain rfl : i = L := by omega
      have hd : decide ((i : Int) < (i : Int)) = false := by simp
      have HE : Hid (ls.take i = ls) := by show ls.take i = ls; rw [← HL.out]; exact List.take_length
      go_wp2_with fail
      go_ret
      exact ⟨by rw [HE.out]; rfl, _, rfl⟩
theorem rget_no (h : Rf o w r ls) (i : Int) (hno : ¬ (0 ≤ i ∧ i < ls.length)) :
    Calls Try.prog 44 #[.pointer (some ⟨r, 0, none⟩), .int .i64 i] w fun e w' => e = .returned (.tuple #[.string ⟨#[]⟩, .bool false]) ∧ ∃ q, w' = w.drewN q := by
  obtain ⟨lv, h1, h2⟩ := h.ex
  have c0 : w.cell? ⟨r, 0, none⟩ = some lv := by simp [World.cell?, h1]
  obtain ⟨a, cap, rfl, x1, x2⟩ := h2.form
  clear h h1 h2
  by_cases h0 : i < 0
  · have hd : decide (i < 0) = true := by simp; omega
    go_enter Try.func44, Try.ntmps44
    go_wp2_with fail
    go_ret2
    exact ⟨rfl, 0, rfl⟩
  · have hd : decide (i < 0) = false := by simp; omega
    have hd2 : decide ((ls.length : Int) ≤ i) = true := by simp; omega
    go_enter Try.func44, Try.ntmps44
    go_wp2_with fail
    go_ret2
    exact ⟨rfl, 0, rfl⟩
theorem rget_ok (h : Rf o w r ls) {i : Nat} {y : ByteArray} (hl : ls.length < 2 ^ 40) (hy : ls[i]? = some y) :
    Calls Try.prog 44 #[.pointer (some ⟨r, 0, none⟩), .int .i64 i] w fun e w' => e = .returned (.tuple #[.string y, .bool true]) ∧ ∃ q, w' = w.drewN q := by
  obtain ⟨lv, h1, h2⟩ := h.ex
  have c0 : w.cell? ⟨r, 0, none⟩ = some lv := by simp [World.cell?, h1]
  obtain ⟨a, cap, rfl, x1, x2⟩ := h2.form
  obtain ⟨b, off, rfl, e1⟩ := h2.lies.cell hy
  have hi := (List.getElem?_eq_some_iff.1 hy).1
  have hd : decide ((i : Int) < 0) = false := by simp
  have hd2 : decide ((ls.length : Int) ≤ (i : Int)) = false := by simp; omega
  unfold maxLen at x2
  clear h h1 h2 hy
  generalize ls.length = L at *
  go_enter Try.func44, Try.ntmps44
  go_wp2_with fail
  go_ret2
  exact ⟨rfl, 0, rfl⟩
end
end Go.Proofs.Ytfnhbjokokjhfaa
