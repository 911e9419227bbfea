/- A tree and the document's list side by side. -/
import Derived.Test.YtfnhbjokokjhfaaRef4
namespace Go.Proofs.Ytfnhbjokokjhfaa
open Go.ChangeShapes Go.WideShapes Go.ChangeAt Go.RowKit
structure Two (B : Nat) (W wr : World) (t r : Nat) (lt lr : List ByteArray) (m : Nat) (bx : List (Nat × Obj)) : Prop where
  ex : ∃ o, Tr o wr t lt m ∧ Old B o ∧ Rf o wr r lr ∧ ∀ x ∈ bx, wr.heap[x.1]? = some x.2 ∧ o x.1 = .free ∧ x.1 ≠ r
  below : Below B W wr
  le : B ≤ W.heap.size
  ge : B ≤ r
section
variable {B : Nat} {W wr w' : World} {t r : Nat} {lt lr ls ms : List ByteArray} {m : Nat} {bx : List (Nat × Obj)} {o : Own}
theorem apart_ref (h : o r = .free) : Apart o (refOwn r) := fun k hk => by
  have : k ≠ r := fun e => hk (by rw [e]; exact h)
  simp [refOwn, this]
theorem Two.turnT {lt' : List ByteArray} {m' : Nat} (h : Two B W wr t r lt lr m bx) (h2 : Old B o) (h3 : Rf o wr r lr) (h4 : ∀ x ∈ bx, wr.heap[x.1]? = some x.2 ∧ o x.1 = .free ∧ x.1 ≠ r) (hA : After o wr t lt' m' w') : Two B W w' t r lt' lr m' bx := by
  obtain ⟨o', q1, q2⟩ := hA
  obtain ⟨r1, r2⟩ := h2.keeps q2 (Nat.le_trans h.le h.below.size)
  refine ⟨⟨o', q1, r1, h3.keeps q2, fun x hx => ?_⟩, h.below.trans r2, h.le, h.ge⟩
  obtain ⟨a1, a2, a3⟩ := h4 x hx
  have hl := (Array.getElem?_eq_some_iff.1 a1).1
  exact ⟨by rw [q2.block _ hl a2]; exact a1, q2.own _ hl a2, a3⟩
theorem Two.turnR {lr' : List ByteArray} (h : Two B W wr t r lt lr m bx) (h1 : Tr o wr t lt m) (h2 : Old B o) (h4 : ∀ x ∈ bx, wr.heap[x.1]? = some x.2 ∧ o x.1 = .free ∧ x.1 ≠ r) (hR : Rf o w' r lr') (k : Keeps (refOwn r) (refOwn r) wr w') : Two B W w' t r lt lr' m bx := by
  have hrf := hR.free
  obtain ⟨r1, _⟩ := h1.kept (apart_ref hrf) k
  refine ⟨⟨o, r1, h2, hR, fun x hx => ?_⟩, h.below.trans (k.below (Nat.le_trans h.le h.below.size) fun j hj => ?_), h.le, h.ge⟩
  · obtain ⟨a1, a2, a3⟩ := h4 x hx
    have hl := (Array.getElem?_eq_some_iff.1 a1).1
    exact ⟨by rw [k.block _ hl (by simp [refOwn, a3])]; exact a1, a2, a3⟩
  · have := h.ge
    have : j ≠ r := by omega
    simp [refOwn, this]
theorem Two.under (h : Two B W wr t r lt lr m bx) (hb : Below wr.heap.size wr w') : Two B W w' t r lt lr m bx := by
  obtain ⟨o, h1, h2, h3, h4⟩ := h.ex
  refine ⟨⟨o, h1.below hb, h2, h3.under hb, fun x hx => ?_⟩, h.below.trans (below_mono hb (Nat.le_trans h.le h.below.size)), h.le, h.ge⟩
  obtain ⟨a1, a2, a3⟩ := h4 x hx
  exact ⟨by rw [hb.block _ (Array.getElem?_eq_some_iff.1 a1).1]; exact a1, a2, a3⟩
theorem Two.drewN (h : Two B W wr t r lt lr m bx) (q : Nat) : Two B W (wr.drewN q) t r lt lr m bx := h.under (below_drewN _ _)
theorem Two.mono (h : Two B W wr t r lt lr m bx) {m' : Nat} (hm : m ≤ m') : Two B W wr t r lt lr m' bx := by
  obtain ⟨o, h1, h2, h3, h4⟩ := h.ex
  exact ⟨⟨o, h1.mono hm, h2, h3, h4⟩, h.below, h.le, h.ge⟩
theorem Two.box (h : Two B W wr t r lt lr m bx) (ob : Obj) : Two B W (wr.alloc ob) t r lt lr m ((wr.heap.size, ob) :: bx) := by
  obtain ⟨o, h1, h2, h3, h4⟩ := h.ex
  have hb := (Below.refl wr.heap.size wr).alloc (Nat.le_refl _) ob
  have h5 := h.under hb
  refine ⟨⟨o, h1.below hb, h2, h3.under hb, fun x hx => ?_⟩, h5.below, h.le, h.ge⟩
  rcases List.mem_cons.1 hx with rfl | hx
  · exact ⟨alloc_new wr ob, h1.new (Nat.le_refl _), fun e => by have := h3.lt; simp only at e; omega⟩
  · obtain ⟨a1, a2, a3⟩ := h4 x hx
    exact ⟨by rw [hb.block _ (Array.getElem?_eq_some_iff.1 a1).1]; exact a1, a2, a3⟩
theorem Two.unbox {b : Nat × Obj} (h : Two B W wr t r lt lr m (b :: bx)) : Two B W wr t r lt lr m bx := by
  obtain ⟨o, h1, h2, h3, h4⟩ := h.ex
  exact ⟨⟨o, h1, h2, h3, fun x hx => h4 x (by simp [hx])⟩, h.below, h.le, h.ge⟩
theorem Two.obj (h : Two B W wr t r lt lr m bx) {x : Nat × Obj} (hx : x ∈ bx) : wr.heap[x.1]? = some x.2 := by
  obtain ⟨o, _, _, _, h4⟩ := h.ex; exact (h4 x hx).1
-- the tree's calls
theorem Two.tdelete (h : Two B W wr t r lt lr m bx) (hl : lt.length < 2 ^ 38) (hm : m < 70000000) (hb : sizes lt < 2 ^ 62) (i : Int) (hi : -9223372036854775808 ≤ i ∧ i ≤ 9223372036854775807) :
    Calls Try.prog 17 #[.pointer (some ⟨t, 0, none⟩), .int .i64 i] wr fun e w' => e = .returned (.bool (may lt i 1)) ∧ Two B W w' t r (spliced lt [] i 1) lr (m + 22) bx := by
  obtain ⟨o, h1, h2, h3, h4⟩ := h.ex
  by_cases hok : 0 ≤ i ∧ (0 : Int) ≤ 1 ∧ 1 ≤ (lt.length : Int) - i
  · have hc := delete_ok h1 hl hm hb (i := i.toNat) (by omega)
    rw [Int.toNat_of_nonneg hok.1] at hc
    rw [show may lt i 1 = true by simp only [may, hok]; simp, show spliced lt [] i 1 = lt.take i.toNat ++ lt.drop (i.toNat + 1) by rw [spliced, if_pos hok]; simp [mix]]
    refine hc.mono ?_
    rintro e w' ⟨rfl, q⟩
    exact ⟨rfl, h.turnT h2 h3 h4 q⟩
  · rw [show may lt i 1 = false by simpa [may] using hok, show spliced lt [] i 1 = lt by rw [spliced, if_neg hok]]
    refine (delete_no h1 hl i hi (by omega)).mono ?_
    rintro e w' ⟨rfl, q⟩
    exact ⟨rfl, (h.turnT h2 h3 h4 q).mono (by omega)⟩
theorem Two.tinsert (h : Two B W wr t r lt lr m bx) (hl : lt.length < 2 ^ 38) (hm : m < 70000000) {y : ByteArray} (hb : sizes lt + y.size < 2 ^ 62) (i : Int) (hi : -9223372036854775808 ≤ i ∧ i ≤ 9223372036854775807) :
    Calls Try.prog 11 #[.pointer (some ⟨t, 0, none⟩), .int .i64 i, .string y] wr fun e w' => e = .returned (.bool (may lt i 0)) ∧ Two B W w' t r (spliced lt [y] i 0) lr (m + 22) bx := by
  obtain ⟨o, h1, h2, h3, h4⟩ := h.ex
  by_cases hok : 0 ≤ i ∧ (0 : Int) ≤ 0 ∧ 0 ≤ (lt.length : Int) - i
  · have hc := insert_ok h1 hl hm hb (i := i.toNat) (by omega)
    rw [Int.toNat_of_nonneg hok.1] at hc
    rw [show may lt i 0 = true by simp only [may, hok]; simp, show spliced lt [y] i 0 = lt.take i.toNat ++ y :: lt.drop i.toNat by rw [spliced, if_pos hok]; simp [mix]]
    refine hc.mono ?_
    rintro e w' ⟨rfl, q⟩
    exact ⟨rfl, h.turnT h2 h3 h4 q⟩
  · rw [show may lt i 0 = false by simpa [may] using hok, show spliced lt [y] i 0 = lt by rw [spliced, if_neg hok]]
    refine (insert_no h1 hl i hi (by omega)).mono ?_
    rintro e w' ⟨rfl, q⟩
    exact ⟨rfl, (h.turnT h2 h3 h4 q).mono (by omega)⟩
theorem Two.tset (h : Two B W wr t r lt lr m bx) (hl : lt.length < 2 ^ 38) (hm : m < 70000000) {y : ByteArray} (hb : sizes lt + y.size < 2 ^ 62) (i : Int) (hi : -9223372036854775808 ≤ i ∧ i ≤ 9223372036854775807) :
    Calls Try.prog 21 #[.pointer (some ⟨t, 0, none⟩), .int .i64 i, .string y] wr fun e w' => e = .returned (.bool (may lt i 1)) ∧ Two B W w' t r (spliced lt [y] i 1) lr (m + 22) bx := by
  obtain ⟨o, h1, h2, h3, h4⟩ := h.ex
  by_cases hok : 0 ≤ i ∧ (0 : Int) ≤ 1 ∧ 1 ≤ (lt.length : Int) - i
  · have hc := set_ok h1 hl hm hb (i := i.toNat) (by omega)
    rw [Int.toNat_of_nonneg hok.1] at hc
    rw [show may lt i 1 = true by simp only [may, hok]; simp, show spliced lt [y] i 1 = lt.set i.toNat y by rw [spliced, if_pos hok, List.set_eq_take_append_cons_drop, if_pos (by omega)]; simp [mix]]
    refine hc.mono ?_
    rintro e w' ⟨rfl, q⟩
    exact ⟨rfl, h.turnT h2 h3 h4 q⟩
  · rw [show may lt i 1 = false by simpa [may] using hok, show spliced lt [y] i 1 = lt by rw [spliced, if_neg hok]]
    refine (set_no h1 hl i hi (by omega)).mono ?_
    rintro e w' ⟨rfl, q⟩
    exact ⟨rfl, (h.turnT h2 h3 h4 q).mono (by omega)⟩
theorem Two.tsplice (h : Two B W wr t r lt lr m bx) (hBW : B = W.heap.size) {v : Value} (hv : Lies nobody W v ms) (hl : lt.length + ms.length < 2 ^ 37) (hm : m + 22 * (lt.length + ms.length) < 70000000) (hb : sizes lt + sizes ms < 2 ^ 62) (i n : Int) (hi : -9223372036854775808 ≤ i ∧ i ≤ 9223372036854775807) :
    Calls Try.prog 27 #[.pointer (some ⟨t, 0, none⟩), .int .i64 i, .int .i64 n, v] wr fun e w' => e = .returned (.bool (may lt i n)) ∧ Two B W w' t r (spliced lt ms i n) lr (m + 22 * (lt.length + ms.length)) bx := by
  obtain ⟨o, h1, h2, h3, h4⟩ := h.ex
  by_cases hok : 0 ≤ i ∧ 0 ≤ n ∧ n ≤ (lt.length : Int) - i
  · have hc := splice_ok h1 (hv.at (by omega) h.below h2) (i := i.toNat) (n := n.toNat) (by omega) hl (by omega) hb
    rw [Int.toNat_of_nonneg hok.1, Int.toNat_of_nonneg hok.2.1] at hc
    rw [show may lt i n = true by simp [may, hok], show spliced lt ms i n = mix lt ms i.toNat ms.length (i.toNat + n.toNat) by rw [spliced, if_pos hok]]
    refine hc.mono ?_
    rintro e w' ⟨rfl, q⟩
    exact ⟨rfl, (h.turnT h2 h3 h4 q).mono (by omega)⟩
  · rw [show may lt i n = false by simpa [may] using hok, show spliced lt ms i n = lt by rw [spliced, if_neg hok]]
    refine (splice_no h1 (by omega) i n hi hok).mono ?_
    rintro e w' ⟨rfl, q⟩
    exact ⟨rfl, (h.turnT h2 h3 h4 q).mono (by omega)⟩
-- the list's calls
theorem Two.rdelete (h : Two B W wr t r lt lr m bx) (hl : lr.length < 2 ^ 37) (i : Int) (hi : -9223372036854775808 ≤ i ∧ i ≤ 9223372036854775807) :
    Calls Try.prog 41 #[.pointer (some ⟨r, 0, none⟩), .int .i64 i] wr fun e w' => e = .returned (.bool (may lr i 1)) ∧ Two B W w' t r lt (spliced lr [] i 1) m bx := by
  obtain ⟨o, h1, h2, h3, h4⟩ := h.ex
  refine (rdelete_any h3 h1.lt (by omega) i hi).mono ?_
  rintro e w' ⟨rfl, q1, q2⟩
  exact ⟨rfl, h.turnR h1 h2 h4 q1 q2⟩
theorem Two.rinsert (h : Two B W wr t r lt lr m bx) (hl : lr.length < 2 ^ 37) (y : ByteArray) (i : Int) (hi : -9223372036854775808 ≤ i ∧ i ≤ 9223372036854775807) :
    Calls Try.prog 46 #[.pointer (some ⟨r, 0, none⟩), .int .i64 i, .string y] wr fun e w' => e = .returned (.bool (may lr i 0)) ∧ Two B W w' t r lt (spliced lr [y] i 0) m bx := by
  obtain ⟨o, h1, h2, h3, h4⟩ := h.ex
  refine (rinsert_any h3 h1.lt (by omega) y i hi).mono ?_
  rintro e w' ⟨rfl, q1, q2⟩
  exact ⟨rfl, h.turnR h1 h2 h4 q1 q2⟩
theorem Two.rset (h : Two B W wr t r lt lr m bx) (hl : lr.length < 2 ^ 37) (y : ByteArray) (i : Int) (hi : -9223372036854775808 ≤ i ∧ i ≤ 9223372036854775807) :
    Calls Try.prog 42 #[.pointer (some ⟨r, 0, none⟩), .int .i64 i, .string y] wr fun e w' => e = .returned (.bool (may lr i 1)) ∧ Two B W w' t r lt (spliced lr [y] i 1) m bx := by
  obtain ⟨o, h1, h2, h3, h4⟩ := h.ex
  refine (rset_any h3 h1.lt (by omega) y i hi).mono ?_
  rintro e w' ⟨rfl, q1, q2⟩
  exact ⟨rfl, h.turnR h1 h2 h4 q1 q2⟩
theorem Two.rsplice (h : Two B W wr t r lt lr m bx) (hBW : B = W.heap.size) {v : Value} (hv : Lies nobody W v ms) (hnn : ∀ n c, v = .slice none n c → n = 0 ∧ c = 0) (hl : lr.length + ms.length < 2 ^ 37) (i n : Int) (hi : -9223372036854775808 ≤ i ∧ i ≤ 9223372036854775807) :
    Calls Try.prog 43 #[.pointer (some ⟨r, 0, none⟩), .int .i64 i, .int .i64 n, v] wr fun e w' => e = .returned (.bool (may lr i n)) ∧ Two B W w' t r lt (spliced lr ms i n) m bx := by
  obtain ⟨o, h1, h2, h3, h4⟩ := h.ex
  refine (rsplice_any h3 h1.lt (by omega) (hv.at (ob := nobody) (by omega) h.below old_nobody) hnn i n hi).mono ?_
  rintro e w' ⟨rfl, q1, q2⟩
  exact ⟨rfl, h.turnR h1 h2 h4 q1 q2⟩
theorem mem_spliced {y : ByteArray} {i n : Int} (h : y ∈ spliced ls ms i n) : y ∈ ls ∨ y ∈ ms := by
  unfold spliced at h
  split at h
  · unfold mix at h
    rcases List.mem_append.1 h with h | h
    · exact .inl (List.mem_of_mem_take h)
    · rcases List.mem_append.1 h with h | h
      · exact .inr (List.mem_of_mem_take h)
      · exact .inl (List.mem_of_mem_drop h)
  · exact .inl h
theorem len_spliced {i n : Int} : (spliced ls ms i n).length ≤ ls.length + ms.length := by
  unfold spliced
  split
  · simp [mix]; omega
  · omega
end
end Go.Proofs.Ytfnhbjokokjhfaa
