/- One tree, beside what is older than 'B' and beside slices of lines that are told of. -/
import Derived.Test.YtfnhbjokokjhfabLaw0
namespace Go.Proofs.Ytfnhbjokokjhfab
open Go.ChangeShapes Go.WideShapes Go.ChangeAt Go.RowKit
set_option linter.unusedVariables false
structure One (B : Nat) (W wr : World) (t : Nat) (ls : List ByteArray) (m : Nat) (xs : List (Value × List ByteArray)) : Prop where
  ex : ∃ o, Tr o wr t ls m ∧ Old B o ∧ ∀ x ∈ xs, Lies o wr x.1 x.2
  below : Below B W wr
  le : B ≤ W.heap.size
theorem Told.liesO {o : Own} {w w' : World} {v : Value} {ms : List ByteArray} (h : Told w v ms w') (ho : ∀ k, o k ≠ .free → k < w.heap.size) : Lies o w' v ms := by
  obtain ⟨hb, gb, e, hw⟩ := h
  subst e
  rcases hw.2 with ⟨e, _⟩ | ⟨b', cap, cur, e, hge, hg, r1, r2, r3, r4⟩
  · cases e
  · cases e
    refine ⟨some ⟨gb, 0, none⟩, ms.length, rfl, r1, r2, .inr ⟨gb, 0, rfl, (Array.getElem?_eq_some_iff.1 hg).1, ?_, fun j y hj => ?_⟩⟩
    · by_cases h : o gb = .free
      · exact h
      · exact absurd (ho gb h) (by omega)
    · rw [Nat.zero_add]
      exact (row_cell hg r4 (cap := ms.length) (by simp [strs, hj])).1
theorem Lies.under {o : Own} {w w' : World} {v : Value} {ms : List ByteArray} (h : Lies o w v ms) (hb : Below w.heap.size w w') : Lies o w' v ms :=
  h.keeps ⟨hb.os, hb.tape, hb.output, hb.size, fun k hk _ => hb.block k hk, fun _ _ e => e⟩
section
variable {B : Nat} {W wr w' : World} {t : Nat} {ls : List ByteArray} {m : Nat} {xs : List (Value × List ByteArray)}
theorem One.lies (h : One B W wr t ls m xs) {x : Value × List ByteArray} (hx : x ∈ xs) : Lies nobody wr x.1 x.2 := by
  obtain ⟨o, _, _, h3⟩ := h.ex
  exact (h3 x hx).own fun _ _ _ => rfl
theorem One.under (h : One B W wr t ls m xs) (hb : Below wr.heap.size wr w') : One B W w' t ls m xs := by
  obtain ⟨o, h1, h2, h3⟩ := h.ex
  exact ⟨⟨o, h1.below hb, h2, fun x hx => (h3 x hx).under hb⟩, h.below.trans (below_mono hb (Nat.le_trans h.le h.below.size)), h.le⟩
theorem One.drewN (h : One B W wr t ls m xs) (q : Nat) : One B W (wr.drewN q) t ls m xs := h.under (below_drewN _ _)
theorem One.turn {ls' : List ByteArray} {m' : Nat} {o : Own} (h : One B W wr t ls m xs) (h1 : Tr o wr t ls m) (h2 : Old B o) (h3 : ∀ x ∈ xs, Lies o wr x.1 x.2) (hA : After o wr t ls' m' w') : One B W w' t ls' m' xs := by
  obtain ⟨o', q1, q2⟩ := hA
  obtain ⟨r1, r2⟩ := h2.keeps q2 (Nat.le_trans h.le h.below.size)
  exact ⟨⟨o', q1, r1, fun x hx => (h3 x hx).keeps q2⟩, h.below.trans r2, h.le⟩
theorem one_new {w0 w1 : World} (hb : Below B W w0) (hle : B ≤ W.heap.size) (hx : ∀ x ∈ xs, Lies nobody W x.1 x.2) (hBW : B = W.heap.size) (h1 : After nobody w0 t ls m w1) : One B W w1 t ls m xs := by
  have l0 := Nat.le_trans hle hb.size
  obtain ⟨oa, a1, a2⟩ := h1
  obtain ⟨x1, x2⟩ := (old_nobody (B := B)).keeps a2 l0
  exact ⟨⟨oa, a1, x1, fun x hxm => (hx x hxm).at (by omega) (hb.trans x2) x1⟩, hb.trans x2, hle⟩
theorem One.mono (h : One B W wr t ls m xs) {m' : Nat} (hm : m ≤ m') : One B W wr t ls m' xs := by
  obtain ⟨o, h1, h2, h3⟩ := h.ex
  exact ⟨⟨o, h1.mono hm, h2, h3⟩, h.below, h.le⟩
theorem One.set (h : One B W wr t ls m xs) (hl : ls.length < 2 ^ 38) (hm : m < 70000000) {y : ByteArray} (hb : sizes ls + y.size < 2 ^ 62) {i : Nat} (hi : i < ls.length) :
    Calls Try.prog 19 #[.pointer (some ⟨t, 0, none⟩), .int .i64 i, .string y] wr fun e w' => e = .returned (.bool true) ∧ One B W w' t (ls.set i y) (m + 22) xs := by
  obtain ⟨o, h1, h2, h3⟩ := h.ex
  refine (set_ok h1 hl hm hb hi).mono ?_
  rintro e w' ⟨rfl, q⟩
  exact ⟨rfl, h.turn h1 h2 h3 q⟩
theorem One.setNo (h : One B W wr t ls m xs) (hl : ls.length < 2 ^ 38) {y : ByteArray} (i : Int) (hi : -9223372036854775808 ≤ i ∧ i ≤ 9223372036854775807) (hno : ¬ (0 ≤ i ∧ i < ls.length)) :
    Calls Try.prog 19 #[.pointer (some ⟨t, 0, none⟩), .int .i64 i, .string y] wr fun e w' => e = .returned (.bool false) ∧ One B W w' t ls m xs := by
  obtain ⟨o, h1, h2, h3⟩ := h.ex
  refine (set_no h1 hl i hi hno).mono ?_
  rintro e w' ⟨rfl, q⟩
  exact ⟨rfl, h.turn h1 h2 h3 q⟩
theorem One.insert (h : One B W wr t ls m xs) (hl : ls.length < 2 ^ 38) (hm : m < 70000000) {y : ByteArray} (hb : sizes ls + y.size < 2 ^ 62) {i : Nat} (hi : i ≤ ls.length) :
    Calls Try.prog 25 #[.pointer (some ⟨t, 0, none⟩), .int .i64 i, .string y] wr fun e w' => e = .returned (.bool true) ∧ One B W w' t (ls.take i ++ y :: ls.drop i) (m + 22) xs := by
  obtain ⟨o, h1, h2, h3⟩ := h.ex
  refine (insert_ok h1 hl hm hb hi).mono ?_
  rintro e w' ⟨rfl, q⟩
  exact ⟨rfl, h.turn h1 h2 h3 q⟩
theorem One.insertNo (h : One B W wr t ls m xs) (hl : ls.length < 2 ^ 38) {y : ByteArray} (i : Int) (hi : -9223372036854775808 ≤ i ∧ i ≤ 9223372036854775807) (hno : ¬ (0 ≤ i ∧ i ≤ ls.length)) :
    Calls Try.prog 25 #[.pointer (some ⟨t, 0, none⟩), .int .i64 i, .string y] wr fun e w' => e = .returned (.bool false) ∧ One B W w' t ls m xs := by
  obtain ⟨o, h1, h2, h3⟩ := h.ex
  refine (insert_no h1 hl i hi hno).mono ?_
  rintro e w' ⟨rfl, q⟩
  exact ⟨rfl, h.turn h1 h2 h3 q⟩
theorem One.delete (h : One B W wr t ls m xs) (hl : ls.length < 2 ^ 38) (hm : m < 70000000) (hb : sizes ls < 2 ^ 62) {i : Nat} (hi : i < ls.length) :
    Calls Try.prog 17 #[.pointer (some ⟨t, 0, none⟩), .int .i64 i] wr fun e w' => e = .returned (.bool true) ∧ One B W w' t (ls.take i ++ ls.drop (i + 1)) (m + 22) xs := by
  obtain ⟨o, h1, h2, h3⟩ := h.ex
  refine (delete_ok h1 hl hm hb hi).mono ?_
  rintro e w' ⟨rfl, q⟩
  exact ⟨rfl, h.turn h1 h2 h3 q⟩
theorem One.deleteNo (h : One B W wr t ls m xs) (hl : ls.length < 2 ^ 38) (i : Int) (hi : -9223372036854775808 ≤ i ∧ i ≤ 9223372036854775807) (hno : ¬ (0 ≤ i ∧ i < ls.length)) :
    Calls Try.prog 17 #[.pointer (some ⟨t, 0, none⟩), .int .i64 i] wr fun e w' => e = .returned (.bool false) ∧ One B W w' t ls m xs := by
  obtain ⟨o, h1, h2, h3⟩ := h.ex
  refine (delete_no h1 hl i hi hno).mono ?_
  rintro e w' ⟨rfl, q⟩
  exact ⟨rfl, h.turn h1 h2 h3 q⟩
theorem One.splice (h : One B W wr t ls m xs) {v : Value} {ms : List ByteArray} (hv : (v, ms) ∈ xs) {i n : Nat} (hin : i + n ≤ ls.length) (hl : ls.length + ms.length < 2 ^ 37) (hm : m + 22 * (n + ms.length) < 70000000) (hb : sizes ls + sizes ms < 2 ^ 62) :
    Calls Try.prog 15 #[.pointer (some ⟨t, 0, none⟩), .int .i64 i, .int .i64 n, v] wr fun e w' => e = .returned (.bool true) ∧ One B W w' t (mix ls ms i ms.length (i + n)) (m + 22 * (n + ms.length)) xs := by
  obtain ⟨o, h1, h2, h3⟩ := h.ex
  refine (splice_ok h1 (h3 _ hv) hin hl hm hb).mono ?_
  rintro e w' ⟨rfl, q⟩
  exact ⟨rfl, h.turn h1 h2 h3 q⟩
theorem One.spliceNo (h : One B W wr t ls m xs) (hl : ls.length < 2 ^ 38) {v : Value} (i n : Int) (hi : -9223372036854775808 ≤ i ∧ i ≤ 9223372036854775807) (hno : ¬ (0 ≤ i ∧ 0 ≤ n ∧ n ≤ (ls.length : Int) - i)) :
    Calls Try.prog 15 #[.pointer (some ⟨t, 0, none⟩), .int .i64 i, .int .i64 n, v] wr fun e w' => e = .returned (.bool false) ∧ One B W w' t ls m xs := by
  obtain ⟨o, h1, h2, h3⟩ := h.ex
  refine (splice_no h1 hl i n hi hno).mono ?_
  rintro e w' ⟨rfl, q⟩
  exact ⟨rfl, h.turn h1 h2 h3 q⟩
theorem One.get (h : One B W wr t ls m xs) (hl : ls.length < 2 ^ 38) {i : Nat} {y : ByteArray} (hy : ls[i]? = some y) :
    Calls Try.prog 12 #[.pointer (some ⟨t, 0, none⟩), .int .i64 i] wr fun e w' => e = .returned (.tuple #[.string y, .bool true]) ∧ ∃ q, w' = wr.drewN q := by
  obtain ⟨o, h1, h2, h3⟩ := h.ex
  exact get_ok h1 hl hy
theorem One.getNo (h : One B W wr t ls m xs) (hl : ls.length < 2 ^ 38) (i : Int) (hi : -9223372036854775808 ≤ i ∧ i ≤ 9223372036854775807) (hno : ¬ (0 ≤ i ∧ i < ls.length)) :
    Calls Try.prog 12 #[.pointer (some ⟨t, 0, none⟩), .int .i64 i] wr fun e w' => e = .returned (.tuple #[.string ⟨#[]⟩, .bool false]) ∧ ∃ q, w' = wr.drewN q := by
  obtain ⟨o, h1, h2, h3⟩ := h.ex
  exact get_no h1 hl i hi hno
theorem One.part (h : One B W wr t ls m xs) (hl : ls.length < 2 ^ 38) {i n : Nat} (hin : i + n ≤ ls.length) :
    Calls Try.prog 16 #[.pointer (some ⟨t, 0, none⟩), .int .i64 i, .int .i64 n] wr fun e w' => ∃ gb, e = .returned (.tuple #[.slice (some ⟨gb, 0, none⟩) n n, .bool true]) ∧ One B W w' t ls m ((.slice (some ⟨gb, 0, none⟩) n n, (ls.drop i).take n) :: xs) := by
  obtain ⟨o, h1, h2, h3⟩ := h.ex
  refine (part_ok h1 hl hin).mono ?_
  rintro e w' ⟨v, rfl, hT⟩
  have hlen : ((ls.drop i).take n).length = n := by simp; omega
  have h5 := hT.liesO h1.lt
  have h4 := h.under hT.1
  obtain ⟨gb, e, _⟩ := hT.2
  subst e
  rw [hlen] at h5 ⊢
  refine ⟨gb, rfl, ⟨o, h1.below hT.1, h2, fun x hx => ?_⟩, h4.below, h.le⟩
  rcases List.mem_cons.1 hx with rfl | hx
  · exact h5
  · exact (h3 x hx).under hT.1
theorem One.partNo (h : One B W wr t ls m xs) (hl : ls.length < 2 ^ 38) (i n : Int) (hi : -9223372036854775808 ≤ i ∧ i ≤ 9223372036854775807) (hno : ¬ (0 ≤ i ∧ 0 ≤ n ∧ n ≤ (ls.length : Int) - i)) :
    Calls Try.prog 16 #[.pointer (some ⟨t, 0, none⟩), .int .i64 i, .int .i64 n] wr fun e w' => e = .returned (.tuple #[.slice none 0 0, .bool false]) ∧ One B W w' t ls m xs := by
  obtain ⟨o, h1, h2, h3⟩ := h.ex
  refine (part_no h1 hl i n hi hno).mono ?_
  rintro e w' ⟨rfl, hb⟩
  exact ⟨rfl, h.under hb⟩
theorem One.lines (h : One B W wr t ls m xs) (hl : ls.length < 2 ^ 38) :
    Calls Try.prog 7 #[.pointer (some ⟨t, 0, none⟩)] wr fun e w' => ∃ gb, e = .returned (.slice (some ⟨gb, 0, none⟩) ls.length ls.length) ∧ One B W w' t ls m ((.slice (some ⟨gb, 0, none⟩) ls.length ls.length, ls) :: xs) := by
  obtain ⟨o, h1, h2, h3⟩ := h.ex
  refine (lines_any h1 hl).mono ?_
  rintro e w' ⟨v, rfl, hT⟩
  have h5 := hT.liesO h1.lt
  have h4 := h.under hT.1
  obtain ⟨gb, e, _⟩ := hT.2
  subst e
  refine ⟨gb, rfl, ⟨o, h1.below hT.1, h2, fun x hx => ?_⟩, h4.below, h.le⟩
  rcases List.mem_cons.1 hx with rfl | hx
  · exact h5
  · exact (h3 x hx).under hT.1
theorem One.len (h : One B W wr t ls m xs) : Calls Try.prog 13 #[.pointer (some ⟨t, 0, none⟩)] wr fun e w' => e = .returned (.int .i64 ls.length) ∧ ∃ q, w' = wr.drewN q := by
  obtain ⟨o, h1, _⟩ := h.ex; exact h1.len
theorem One.shape (h : One B W wr t ls m xs) (hl : ls.length < 2 ^ 30) : Calls Try.prog 11 #[.pointer (some ⟨t, 0, none⟩)] wr fun e w' => ∃ v, e = .returned v ∧ Shaped wr ls.length v w' ∧ One B W w' t ls m xs := by
  obtain ⟨o, h1, _⟩ := h.ex
  refine (shape_any h1 hl).mono ?_
  rintro e w' ⟨v, rfl, hS⟩
  exact ⟨v, rfl, hS, h.under hS.below⟩
theorem One.more (h : One B W wr t ls m xs) {v : Value} {ms : List ByteArray} (hv : ∀ o, (∀ k, o k ≠ .free → k < wr.heap.size) → Lies o w' v ms) (hb : Below wr.heap.size wr w') : One B W w' t ls m ((v, ms) :: xs) := by
  obtain ⟨o, h1, h2, h3⟩ := h.ex
  have h4 := h.under hb
  refine ⟨⟨o, h1.below hb, h2, fun x hx => ?_⟩, h4.below, h.le⟩
  rcases List.mem_cons.1 hx with rfl | hx
  · exact hv o h1.lt
  · exact (h3 x hx).under hb
end
theorem under3 : Try.prog.underlying 3 = some (.int .i64) := by kernel_rfl
theorem str_sized {H : Type} {bs : ByteArray} (h : ∀ n ∈ (DataW.lit (.string bs.data.toList) : DataW H).weights Try.prog 9, n ≤ reachBytes) : bs.size ≤ reachBytes := by
  refine h _ ?_
  simp only [DataW.weights, List.mem_singleton]
  show bs.data.size = _
  rw [Array.length_toList]
theorem i64_range {i : Int} (h : (Lit.int .i64 i).wf = true) : -9223372036854775808 ≤ i ∧ i ≤ 9223372036854775807 := by
  simp only [Lit.wf, Bool.and_eq_true, decide_eq_true_eq] at h
  have h1 : IntKind.i64.min = -9223372036854775808 := by decide
  have h2 : IntKind.i64.max = 9223372036854775807 := by decide
  omega
theorem owns_lies {o : Own} {w w' : World} {v : Value} {ms : List ByteArray} (h : w'.ownsRow w.heap.size 9 1 v ms.length (strs ms)) (ho : ∀ k, o k ≠ .free → k < w.heap.size) : Lies o w' v ms := by
  rcases h.2 with ⟨e, e0⟩ | ⟨b', cap, cur, e, hge, hg, r1, r2, r3, r4⟩
  · have : ms = [] := List.eq_nil_of_length_eq_zero e0
    subst this; subst e; exact lies_nil
  · refine ⟨some ⟨b', 0, none⟩, cap, e, r1, r2, .inr ⟨b', 0, rfl, (Array.getElem?_eq_some_iff.1 hg).1, ?_, fun j y hj => ?_⟩⟩
    · by_cases h : o b' = .free
      · exact h
      · exact absurd (ho b' h) (by omega)
    · rw [Nat.zero_add]
      exact (row_cell hg r4 (cap := cap) (by simp [strs, hj])).1
theorem lies_news {o : Own} {w : World} {g off n c : Nat} {l : List ByteArray} (h : Lies o w (.slice (some ⟨g, off, none⟩) n c) l) : ∀ (j : Nat) u, (strs l)[j]? = some u → w.cell? ((⟨g, off, none⟩ : Addr).add j) = some u := by
  intro j u hj
  simp only [strs, List.getElem?_map, Option.map_eq_some_iff] at hj
  obtain ⟨y, hy, rfl⟩ := hj
  obtain ⟨b, off', e, hc⟩ := h.cell hy
  cases e
  rw [Addr.add_lit]; exact hc
theorem below_grown {B : Nat} {w w1 w2 : World} {row : Option Nat} (h : Below B w w1) (hB : B ≤ w1.heap.size) (hg : w1.grownBy w2 row) (hr : ∀ k, row = some k → B ≤ k) : Below B w w2 :=
  h.trans ⟨hg.os, hg.tape, hg.output, hg.size, fun k hk => hg.block k (by omega) (fun e => by have := hr k e.symm; omega)⟩
theorem same_true {w : World} {va vb : Value} {l : List ByteArray} (ha : Lies nobody w va l) (hb : Lies nobody w vb l) (hl : l.length < 2 ^ 40) : Calls Try.prog 10 #[va, vb] w fun e w' => e = .returned (.bool true) ∧ ∃ q, w' = w.drewN q := by
  have := same_any ha hb hl
  rw [show decide (l = l) = true by simp] at this; exact this
end Go.Proofs.Ytfnhbjokokjhfab
