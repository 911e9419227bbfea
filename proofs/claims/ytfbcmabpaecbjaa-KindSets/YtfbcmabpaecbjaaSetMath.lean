/- Sets of bytes as four words of 64 bits, as plain mathematics: what With, Not, Both and gather come to, and that two sets with the same bytes are one. -/
import Derived.Test.YtfbcmabpaecbjaaRows
import Derived.WalkKit
import Derived.ProofKit
namespace Go.Proofs.Ytfbcmabpaecbjaa

structure S4 where
  a : Nat
  b : Nat
  c : Nat
  d : Nat
def S4.ok (s : S4) : Prop := s.a < 18446744073709551616 ∧ s.b < 18446744073709551616 ∧ s.c < 18446744073709551616 ∧ s.d < 18446744073709551616
def zeroS : S4 := ⟨0, 0, 0, 0⟩
def withS (s : S4) (x : Nat) : S4 :=
  if x < 64 then ⟨s.a ||| 2 ^ x, s.b, s.c, s.d⟩ else if x < 128 then ⟨s.a, s.b ||| 2 ^ (x - 64), s.c, s.d⟩
  else if x < 192 then ⟨s.a, s.b, s.c ||| 2 ^ (x - 128), s.d⟩ else ⟨s.a, s.b, s.c, s.d ||| 2 ^ (x - 192)⟩
def hasS (s : S4) (x : Nat) : Bool :=
  if x < 64 then s.a.testBit x else if x < 128 then s.b.testBit (x - 64) else if x < 192 then s.c.testBit (x - 128) else s.d.testBit (x - 192)
def mask : Nat := 18446744073709551615
def notW (x : Nat) : Nat := mask ^^^ x
def notS (s : S4) : S4 := ⟨notW s.a, notW s.b, notW s.c, notW s.d⟩
def bothS (s t : S4) : S4 := ⟨s.a ||| t.a, s.b ||| t.b, s.c ||| t.c, s.d ||| t.d⟩
def foldS (f : Int → Bool) : Nat → S4
  | 0 => zeroS
  | n + 1 => if f n then withS (foldS f n) n else foldS f n

theorem p64 : (18446744073709551616 : Nat) = 2 ^ 64 := by decide
theorem ok_zero : zeroS.ok := by unfold S4.ok zeroS; decide
theorem or_lt {x j : Nat} (hx : x < 18446744073709551616) (hj : j < 64) : x ||| 2 ^ j < 18446744073709551616 := by
  rw [p64] at *
  exact Nat.or_lt_two_pow hx (Nat.pow_lt_pow_right (by decide) hj)
theorem ok_with {s : S4} (h : s.ok) {x : Nat} (hx : x < 256) : (withS s x).ok := by
  obtain ⟨h1, h2, h3, h4⟩ := h
  unfold withS
  split
  · exact ⟨or_lt h1 (by omega), h2, h3, h4⟩
  · split
    · exact ⟨h1, or_lt h2 (by omega), h3, h4⟩
    · split
      · exact ⟨h1, h2, or_lt h3 (by omega), h4⟩
      · exact ⟨h1, h2, h3, or_lt h4 (by omega)⟩
theorem ok_fold (f : Int → Bool) : ∀ n, n ≤ 256 → (foldS f n).ok
  | 0, _ => ok_zero
  | n + 1, h => by
    unfold foldS
    split
    · exact ok_with (ok_fold f n (by omega)) (by omega)
    · exact ok_fold f n (by omega)
theorem notW_lt {x : Nat} (h : x < 18446744073709551616) : notW x < 18446744073709551616 := by
  unfold notW
  rw [p64] at *
  exact Nat.xor_lt_two_pow (by unfold mask; decide) h
theorem ok_not {s : S4} (h : s.ok) : (notS s).ok := ⟨notW_lt h.1, notW_lt h.2.1, notW_lt h.2.2.1, notW_lt h.2.2.2⟩
theorem or_lt2 {x y : Nat} (hx : x < 18446744073709551616) (hy : y < 18446744073709551616) : x ||| y < 18446744073709551616 := by
  rw [p64] at *
  exact Nat.or_lt_two_pow hx hy
theorem ok_both {s t : S4} (h : s.ok) (k : t.ok) : (bothS s t).ok := by
  obtain ⟨h1, h2, h3, h4⟩ := h
  obtain ⟨k1, k2, k3, k4⟩ := k
  exact ⟨or_lt2 h1 k1, or_lt2 h2 k2, or_lt2 h3 k3, or_lt2 h4 k4⟩

theorem xor_twice (m x : Nat) : m ^^^ (m ^^^ x) = x := by rw [← Nat.xor_assoc, Nat.xor_self, Nat.zero_xor]
theorem notW_eq (x : Nat) : notW x = mask ^^^ x := rfl
theorem notW_notW (x : Nat) : notW (notW x) = x := by rw [notW_eq, notW_eq, xor_twice]
theorem not_not (s : S4) : notS (notS s) = s := by
  unfold notS
  simp only [notW_notW]
theorem m64 : mask = 2 ^ 64 - 1 := by decide
theorem bit_not {x j : Nat} (hj : j < 64) : (notW x).testBit j = !x.testBit j := by
  unfold notW
  rw [Nat.testBit_xor, m64, Nat.testBit_two_pow_sub_one, decide_eq_true hj, Bool.true_xor]
theorem bit_or (x j k : Nat) : (x ||| 2 ^ j).testBit k = (x.testBit k || decide (j = k)) := by
  rw [Nat.testBit_or, Nat.testBit_two_pow]
theorem has_not (s : S4) {x : Nat} (hx : x < 256) : hasS (notS s) x = !hasS s x := by
  unfold hasS notS
  split
  · exact bit_not (by omega)
  · split
    · exact bit_not (by omega)
    · split
      · exact bit_not (by omega)
      · exact bit_not (by omega)
theorem has_both (s t : S4) (x : Nat) : hasS (bothS s t) x = (hasS s x || hasS t x) := by
  unfold hasS bothS
  simp only [Nat.testBit_or]
  repeat' split
  all_goals rfl
theorem has_with (s : S4) {x y : Nat} (hx : x < 256) (hy : y < 256) : hasS (withS s x) y = (hasS s y || decide (x = y)) := by
  by_cases e : x = y
  · subst e
    unfold hasS withS
    by_cases h1 : x < 64
    · simp [h1]
    · by_cases h2 : x < 128
      · simp [h1, h2]
      · by_cases h3 : x < 192
        · simp [h1, h2, h3]
        · simp [h1, h2, h3]
  · rw [decide_eq_false e, Bool.or_false]
    unfold hasS withS
    by_cases h1 : x < 64
    · rw [if_pos h1]
      repeat' split
      · rw [bit_or, decide_eq_false e, Bool.or_false]
      all_goals rfl
    · rw [if_neg h1]
      by_cases h2 : x < 128
      · rw [if_pos h2]
        split
        · rfl
        · split
          · rw [bit_or, decide_eq_false (by omega), Bool.or_false]
          · rfl
      · rw [if_neg h2]
        by_cases h3 : x < 192
        · rw [if_pos h3]
          split
          · rfl
          · split
            · rfl
            · split
              · rw [bit_or, decide_eq_false (by omega), Bool.or_false]
              · rfl
        · rw [if_neg h3]
          split
          · rfl
          · split
            · rfl
            · split
              · rfl
              · rw [bit_or, decide_eq_false (by omega), Bool.or_false]
theorem has_zero (x : Nat) : hasS zeroS x = false := by
  unfold hasS zeroS
  repeat' split
  all_goals exact Nat.zero_testBit _
theorem has_fold (f : Int → Bool) (x : Nat) : ∀ n, n ≤ 256 → x < 256 → hasS (foldS f n) x = (decide (x < n) && f x)
  | 0, _, _ => by rw [show foldS f 0 = zeroS from rfl, has_zero]; simp
  | n + 1, h, hx => by
    have ih := has_fold f x n (by omega) hx
    unfold foldS
    by_cases e : n = x
    · subst e
      cases hf : f n
      · simp only [Bool.false_eq_true, if_false]
        rw [ih, hf, Bool.and_false, Bool.and_false]
      · simp only [if_true]
        rw [has_with _ (by omega) hx]
        simp
    · have e2 : decide (x < n + 1) = decide (x < n) := by by_cases q : x < n <;> simp [q] <;> omega
      split
      · rw [has_with _ (by omega) hx, decide_eq_false e, Bool.or_false, ih, e2]
      · rw [ih, e2]
theorem has_all (f : Int → Bool) {x : Nat} (hx : x < 256) : hasS (foldS f 256) x = f x := by
  rw [has_fold f x 256 (by omega) hx, decide_eq_true hx, Bool.true_and]
theorem word_ext {x y : Nat} (hx : x < 18446744073709551616) (hy : y < 18446744073709551616) (h : ∀ j, j < 64 → x.testBit j = y.testBit j) : x = y := by
  refine Nat.eq_of_testBit_eq fun j => ?_
  by_cases hj : j < 64
  · exact h j hj
  · rw [p64] at hx hy
    have hp : 2 ^ 64 ≤ 2 ^ j := Nat.pow_le_pow_right (by decide) (by omega)
    rw [Nat.testBit_lt_two_pow (Nat.lt_of_lt_of_le hx hp), Nat.testBit_lt_two_pow (Nat.lt_of_lt_of_le hy hp)]
theorem set_ext {s t : S4} (hs : s.ok) (ht : t.ok) (h : ∀ x, x < 256 → hasS s x = hasS t x) : s = t := by
  obtain ⟨s1, s2, s3, s4⟩ := hs
  obtain ⟨t1, t2, t3, t4⟩ := ht
  have a := word_ext s1 t1 fun j hj => by have := h j (by omega); simpa [hasS, hj] using this
  have b := word_ext s2 t2 fun j hj => by
    have := h (64 + j) (by omega)
    simpa [hasS, show ¬ 64 + j < 64 from by omega, show 64 + j < 128 from by omega] using this
  have c := word_ext s3 t3 fun j hj => by
    have := h (128 + j) (by omega)
    simpa [hasS, show ¬ 128 + j < 64 from by omega, show ¬ 128 + j < 128 from by omega, show 128 + j < 192 from by omega] using this
  have d := word_ext s4 t4 fun j hj => by
    have := h (192 + j) (by omega)
    simpa [hasS, show ¬ 192 + j < 64 from by omega, show ¬ 192 + j < 128 from by omega, show ¬ 192 + j < 192 from by omega] using this
  cases s
  cases t
  simp only at a b c d
  rw [a, b, c, d]
theorem fold_congr {f g : Int → Bool} (h : ∀ x : Nat, x < 256 → f x = g x) : foldS f 256 = foldS g 256 :=
  set_ext (ok_fold f 256 (by omega)) (ok_fold g 256 (by omega)) fun x hx => by rw [has_all f hx, has_all g hx, h x hx]
/- a set has a byte just if the set with it is the set -/
theorem with_same {s : S4} (hs : s.ok) {x : Nat} (hx : x < 256) : withS s x = s ↔ hasS s x = true := by
  constructor
  · intro h
    have := has_with s hx hx
    rw [h] at this
    simpa using this
  · intro h
    refine set_ext (ok_with hs hx) hs fun y hy => ?_
    rw [has_with s hx hy]
    by_cases e : x = y
    · subst e
      simp [h]
    · simp [e]
end Go.Proofs.Ytfbcmabpaecbjaa
