/- The calls of package kind on sets (Has, With, Not, Both), and the document's, return just what plain functions of the four words say, and write nothing that was there. -/
import Derived.Test.YtfbcmabpaecbjaaSetMath
import Derived.Test.YtfbcmabpaecbjaaCls
import Derived.Laws.BitsAllLaws
import Derived.LoopTactic
import Derived.RegionTactic
import Derived.Deep.RegionWith
import Derived.Deep.RegionHeld3
namespace Go.Proofs.Ytfbcmabpaecbjaa
open Go.ChangeShapes Go.WideShapes Go.ChangeAt Go.RowKit

theorem ret_set {a b c d a' b' c' d' : Int} (h1 : a = a') (h2 : b = b') (h3 : c = c') (h4 : d = d') :
    Ending.returned (.agg #[.int .u64 a, .int .u64 b, .int .u64 c, .int .u64 d]) = .returned (.agg #[.int .u64 a', .int .u64 b', .int .u64 c', .int .u64 d']) := by
  rw [h1, h2, h3, h4]
theorem bit_lt {j : Nat} (hj : j < 64) : 2 ^ j < 18446744073709551616 := by
  rw [p64]
  exact Nat.pow_lt_pow_right (by decide) hj
theorem wrap_bit {j : Nat} (hj : j < 64) : IntKind.u64.wrap (2 ^ j) = ((2 ^ j : Nat) : Int) := by
  have h := bit_lt hj
  rw [IntKind.wrap_u64, show ((2 : Int) ^ j) = ((2 ^ j : Nat) : Int) from by simp]
  generalize 2 ^ j = n at h
  exact Int.emod_eq_of_lt (by omega) (by omega)
theorem or_bit0 {x j : Nat} (hx : x < 18446744073709551616) (hj : j < 64) : bits BinOp.or IntKind.u64 (x : Int) (IntKind.u64.wrap (2 ^ j)) = ((x ||| 2 ^ j : Nat) : Int) := by
  rw [wrap_bit hj]
  exact u64_or_nat x (2 ^ j) hx (bit_lt hj)

theorem kWith_any (s : S4) (hs : s.ok) (x : Nat) (hx : x < 256) (w : World) :
    Calls Try.prog 22 #[.agg #[.int .u64 s.a, .int .u64 s.b, .int .u64 s.c, .int .u64 s.d], .int .u8 x] w fun e w' =>
      e = .returned (.agg #[.int .u64 (withS s x).a, .int .u64 (withS s x).b, .int .u64 (withS s x).c, .int .u64 (withS s x).d]) ∧ Below w.heap.size w w' := by
  obtain ⟨h1, h2, h3, h4⟩ := hs
  by_cases c1 : x < 64
  · have e : withS s x = ⟨s.a ||| 2 ^ x, s.b, s.c, s.d⟩ := by simp [withS, c1]
    rw [e]
    have q1 : (x : Int) / 64 = 0 := by omega
    have q2 : (x : Int) % 64 = x := by omega
    clear e
    go_enter Try.func22, Try.ntmps22
    go_wp2
    exact bodyPost_ret (v := .agg #[.int .u64 (bits BinOp.or IntKind.u64 (s.a : Int) (IntKind.u64.wrap (2 ^ x))), .int .u64 s.b, .int .u64 s.c, .int .u64 s.d]) (by simp [results, Try.results22, go_sem]) rfl ⟨ret_set (or_bit0 h1 (by omega)) rfl rfl rfl, bw_alloc (bw_alloc (Below.refl _ _) _) _⟩
  · skip
    by_cases c2 : x < 128
    · have e : withS s x = ⟨s.a, s.b ||| 2 ^ (x - 64), s.c, s.d⟩ := by simp [withS, c1, c2]
      rw [e]
      have q1 : (x : Int) / 64 = 1 := by omega
      have q2 : (x : Int) % 64 = x - 64 := by omega
      clear e
      go_enter Try.func22, Try.ntmps22
      go_wp2
      exact bodyPost_ret (v := .agg #[.int .u64 s.a, .int .u64 (bits BinOp.or IntKind.u64 (s.b : Int) (IntKind.u64.wrap (2 ^ (x - 64)))), .int .u64 s.c, .int .u64 s.d]) (by simp [results, Try.results22, go_sem]) rfl ⟨ret_set rfl (or_bit0 h2 (by omega)) rfl rfl, bw_alloc (bw_alloc (Below.refl _ _) _) _⟩
    · skip
      by_cases c3 : x < 192
      · have e : withS s x = ⟨s.a, s.b, s.c ||| 2 ^ (x - 128), s.d⟩ := by simp [withS, c1, c2, c3]
        rw [e]
        have q1 : (x : Int) / 64 = 2 := by omega
        have q2 : (x : Int) % 64 = x - 128 := by omega
        clear e
        go_enter Try.func22, Try.ntmps22
        go_wp2
        exact bodyPost_ret (v := .agg #[.int .u64 s.a, .int .u64 s.b, .int .u64 (bits BinOp.or IntKind.u64 (s.c : Int) (IntKind.u64.wrap (2 ^ (x - 128)))), .int .u64 s.d]) (by simp [results, Try.results22, go_sem]) rfl ⟨ret_set rfl rfl (or_bit0 h3 (by omega)) rfl, bw_alloc (bw_alloc (Below.refl _ _) _) _⟩
      · skip
        have e : withS s x = ⟨s.a, s.b, s.c, s.d ||| 2 ^ (x - 192)⟩ := by simp [withS, c1, c2, c3]
        rw [e]
        have q1 : (x : Int) / 64 = 3 := by omega
        have q2 : (x : Int) % 64 = x - 192 := by omega
        clear e
        go_enter Try.func22, Try.ntmps22
        go_wp2
        exact bodyPost_ret (v := .agg #[.int .u64 s.a, .int .u64 s.b, .int .u64 s.c, .int .u64 (bits BinOp.or IntKind.u64 (s.d : Int) (IntKind.u64.wrap (2 ^ (x - 192))))]) (by simp [results, Try.results22, go_sem]) rfl ⟨ret_set rfl rfl rfl (or_bit0 h4 (by omega)), bw_alloc (bw_alloc (Below.refl _ _) _) _⟩
theorem rWith_any (s : S4) (hs : s.ok) (x : Nat) (hx : x < 256) (w : World) :
    Calls Try.prog 24 #[.agg #[.int .u64 s.a, .int .u64 s.b, .int .u64 s.c, .int .u64 s.d], .int .u8 x] w fun e w' =>
      e = .returned (.agg #[.int .u64 (withS s x).a, .int .u64 (withS s x).b, .int .u64 (withS s x).c, .int .u64 (withS s x).d]) ∧ Below w.heap.size w w' := by
  obtain ⟨h1, h2, h3, h4⟩ := hs
  by_cases c1 : x < 64
  · have e : withS s x = ⟨s.a ||| 2 ^ x, s.b, s.c, s.d⟩ := by simp [withS, c1]
    rw [e]
    have q1 : (x : Int) / 64 = 0 := by omega
    have q2 : (x : Int) % 64 = x := by omega
    clear e
    go_enter Try.func24, Try.ntmps24
    go_wp2
    exact bodyPost_ret (v := .agg #[.int .u64 (bits BinOp.or IntKind.u64 (s.a : Int) (IntKind.u64.wrap (2 ^ x))), .int .u64 s.b, .int .u64 s.c, .int .u64 s.d]) (by simp [results, Try.results24, go_sem]) rfl ⟨ret_set (or_bit0 h1 (by omega)) rfl rfl rfl, bw_alloc (bw_alloc (Below.refl _ _) _) _⟩
  · skip
    by_cases c2 : x < 128
    · have e : withS s x = ⟨s.a, s.b ||| 2 ^ (x - 64), s.c, s.d⟩ := by simp [withS, c1, c2]
      rw [e]
      have q1 : (x : Int) / 64 = 1 := by omega
      have q2 : (x : Int) % 64 = x - 64 := by omega
      clear e
      go_enter Try.func24, Try.ntmps24
      go_wp2
      exact bodyPost_ret (v := .agg #[.int .u64 s.a, .int .u64 (bits BinOp.or IntKind.u64 (s.b : Int) (IntKind.u64.wrap (2 ^ (x - 64)))), .int .u64 s.c, .int .u64 s.d]) (by simp [results, Try.results24, go_sem]) rfl ⟨ret_set rfl (or_bit0 h2 (by omega)) rfl rfl, bw_alloc (bw_alloc (Below.refl _ _) _) _⟩
    · skip
      by_cases c3 : x < 192
      · have e : withS s x = ⟨s.a, s.b, s.c ||| 2 ^ (x - 128), s.d⟩ := by simp [withS, c1, c2, c3]
        rw [e]
        have q1 : (x : Int) / 64 = 2 := by omega
        have q2 : (x : Int) % 64 = x - 128 := by omega
        clear e
        go_enter Try.func24, Try.ntmps24
        go_wp2
        exact bodyPost_ret (v := .agg #[.int .u64 s.a, .int .u64 s.b, .int .u64 (bits BinOp.or IntKind.u64 (s.c : Int) (IntKind.u64.wrap (2 ^ (x - 128)))), .int .u64 s.d]) (by simp [results, Try.results24, go_sem]) rfl ⟨ret_set rfl rfl (or_bit0 h3 (by omega)) rfl, bw_alloc (bw_alloc (Below.refl _ _) _) _⟩
      · skip
        have e : withS s x = ⟨s.a, s.b, s.c, s.d ||| 2 ^ (x - 192)⟩ := by simp [withS, c1, c2, c3]
        rw [e]
        have q1 : (x : Int) / 64 = 3 := by omega
        have q2 : (x : Int) % 64 = x - 192 := by omega
        clear e
        go_enter Try.func24, Try.ntmps24
        go_wp2
        exact bodyPost_ret (v := .agg #[.int .u64 s.a, .int .u64 s.b, .int .u64 s.c, .int .u64 (bits BinOp.or IntKind.u64 (s.d : Int) (IntKind.u64.wrap (2 ^ (x - 192))))]) (by simp [results, Try.results24, go_sem]) rfl ⟨ret_set rfl rfl rfl (or_bit0 h4 (by omega)), bw_alloc (bw_alloc (Below.refl _ _) _) _⟩

theorem sgn : IntKind.u64.signed = false := rfl
theorem not_word {x : Nat} (hx : x < 18446744073709551616) : bits BinOp.xor IntKind.u64 IntKind.u64.max (x : Int) = ((notW x : Nat) : Int) := by
  rw [show IntKind.u64.max = ((mask : Nat) : Int) from by decide, u64_xor_nat mask x (by unfold mask; decide) hx, notW_eq]
theorem kNot_any (s : S4) (hs : s.ok) (w : World) :
    Calls Try.prog 25 #[.agg #[.int .u64 s.a, .int .u64 s.b, .int .u64 s.c, .int .u64 s.d]] w fun e w' =>
      e = .returned (.agg #[.int .u64 (notS s).a, .int .u64 (notS s).b, .int .u64 (notS s).c, .int .u64 (notS s).d]) ∧ Below w.heap.size w w' := by
  have hsg := sgn
  go_enter Try.func25, Try.ntmps25
  go_wp2
  refine wp_loop_rounds 5 ?_
  rw [rounds_succ]
  go_wp2
  rw [rounds_succ]
  go_wp2
  rw [rounds_succ]
  go_wp2
  rw [rounds_succ]
  go_wp2
  rw [rounds_succ]
  go_wp2
  exact bodyPost_ret (v := .agg #[.int .u64 (bits BinOp.xor IntKind.u64 IntKind.u64.max s.a), .int .u64 (bits BinOp.xor IntKind.u64 IntKind.u64.max s.b), .int .u64 (bits BinOp.xor IntKind.u64 IntKind.u64.max s.c), .int .u64 (bits BinOp.xor IntKind.u64 IntKind.u64.max s.d)]) (by simp [results, Try.results25, go_sem]) rfl
    ⟨ret_set (not_word hs.1) (not_word hs.2.1) (not_word hs.2.2.1) (not_word hs.2.2.2), bw_alloc (bw_alloc (Below.refl _ _) _) _⟩
theorem rNot_any (s : S4) (hs : s.ok) (w : World) :
    Calls Try.prog 26 #[.agg #[.int .u64 s.a, .int .u64 s.b, .int .u64 s.c, .int .u64 s.d]] w fun e w' =>
      e = .returned (.agg #[.int .u64 (notS s).a, .int .u64 (notS s).b, .int .u64 (notS s).c, .int .u64 (notS s).d]) ∧ Below w.heap.size w w' := by
  have hsg := sgn
  go_enter Try.func26, Try.ntmps26
  go_wp2
  refine wp_loop_rounds 5 ?_
  rw [rounds_succ]
  go_wp2
  rw [rounds_succ]
  go_wp2
  rw [rounds_succ]
  go_wp2
  rw [rounds_succ]
  go_wp2
  rw [rounds_succ]
  go_wp2
  exact bodyPost_ret (v := .agg #[.int .u64 (bits BinOp.xor IntKind.u64 IntKind.u64.max s.a), .int .u64 (bits BinOp.xor IntKind.u64 IntKind.u64.max s.b), .int .u64 (bits BinOp.xor IntKind.u64 IntKind.u64.max s.c), .int .u64 (bits BinOp.xor IntKind.u64 IntKind.u64.max s.d)]) (by simp [results, Try.results26, go_sem]) rfl
    ⟨ret_set (not_word hs.1) (not_word hs.2.1) (not_word hs.2.2.1) (not_word hs.2.2.2), bw_alloc (bw_alloc (Below.refl _ _) _) _⟩
theorem kBoth_any (s t : S4) (hs : s.ok) (ht : t.ok) (w : World) :
    Calls Try.prog 11 #[.agg #[.int .u64 s.a, .int .u64 s.b, .int .u64 s.c, .int .u64 s.d], .agg #[.int .u64 t.a, .int .u64 t.b, .int .u64 t.c, .int .u64 t.d]] w fun e w' =>
      e = .returned (.agg #[.int .u64 (bothS s t).a, .int .u64 (bothS s t).b, .int .u64 (bothS s t).c, .int .u64 (bothS s t).d]) ∧ Below w.heap.size w w' := by
  have hsg := sgn
  go_enter Try.func11, Try.ntmps11
  go_wp2
  refine wp_loop_rounds 5 ?_
  rw [rounds_succ]
  go_wp2
  go_region
  go_wp2
  rw [rounds_succ]
  go_wp2
  go_region
  go_wp2
  rw [rounds_succ]
  go_wp2
  go_region
  go_wp2
  rw [rounds_succ]
  go_wp2
  go_region
  go_wp2
  rw [rounds_succ]
  go_wp2
  exact bodyPost_ret (v := .agg #[.int .u64 (bits BinOp.or IntKind.u64 s.a t.a), .int .u64 (bits BinOp.or IntKind.u64 s.b t.b), .int .u64 (bits BinOp.or IntKind.u64 s.c t.c), .int .u64 (bits BinOp.or IntKind.u64 s.d t.d)]) (by simp [results, Try.results11, go_sem]) rfl
    ⟨ret_set (u64_or_nat _ _ hs.1 ht.1) (u64_or_nat _ _ hs.2.1 ht.2.1) (u64_or_nat _ _ hs.2.2.1 ht.2.2.1) (u64_or_nat _ _ hs.2.2.2 ht.2.2.2), by repeat (first | exact Below.refl _ _ | refine Below.drew ?_ | refine bw_alloc ?_ _)⟩
theorem rBoth_any (s t : S4) (hs : s.ok) (ht : t.ok) (w : World) :
    Calls Try.prog 27 #[.agg #[.int .u64 s.a, .int .u64 s.b, .int .u64 s.c, .int .u64 s.d], .agg #[.int .u64 t.a, .int .u64 t.b, .int .u64 t.c, .int .u64 t.d]] w fun e w' =>
      e = .returned (.agg #[.int .u64 (bothS s t).a, .int .u64 (bothS s t).b, .int .u64 (bothS s t).c, .int .u64 (bothS s t).d]) ∧ Below w.heap.size w w' := by
  have hsg := sgn
  go_enter Try.func27, Try.ntmps27
  go_wp2
  refine wp_loop_rounds 5 ?_
  rw [rounds_succ]
  go_wp2
  go_region
  go_wp2
  rw [rounds_succ]
  go_wp2
  go_region
  go_wp2
  rw [rounds_succ]
  go_wp2
  go_region
  go_wp2
  rw [rounds_succ]
  go_wp2
  go_region
  go_wp2
  rw [rounds_succ]
  go_wp2
  exact bodyPost_ret (v := .agg #[.int .u64 (bits BinOp.or IntKind.u64 s.a t.a), .int .u64 (bits BinOp.or IntKind.u64 s.b t.b), .int .u64 (bits BinOp.or IntKind.u64 s.c t.c), .int .u64 (bits BinOp.or IntKind.u64 s.d t.d)]) (by simp [results, Try.results27, go_sem]) rfl
    ⟨ret_set (u64_or_nat _ _ hs.1 ht.1) (u64_or_nat _ _ hs.2.1 ht.2.1) (u64_or_nat _ _ hs.2.2.1 ht.2.2.1) (u64_or_nat _ _ hs.2.2.2 ht.2.2.2), by repeat (first | exact Below.refl _ _ | refine Below.drew ?_ | refine bw_alloc ?_ _)⟩
theorem bit_shown {n j : Nat} (hn : n < 18446744073709551616) : (bits BinOp.and IntKind.u64 ((n : Int) / 2 ^ j) 1 == 1) = n.testBit j := by
  have h : n / 2 ^ j < 18446744073709551616 := Nat.lt_of_le_of_lt (Nat.div_le_self _ _) hn
  rw [show ((n : Int) / 2 ^ j) = ((n / 2 ^ j : Nat) : Int) from by simp, show (1 : Int) = ((1 : Nat) : Int) from rfl, u64_and_nat (n / 2 ^ j) 1 h (by decide), nat_mask1, Nat.testBit_eq_decide_div_mod_eq, Bool.eq_iff_iff]
  simp only [beq_iff_eq, decide_eq_true_eq]
  omega
theorem bcell {W w1 : World} (hb : Below W.heap.size W w1) : (∀ b o, b < W.heap.size → w1.cell? ⟨b, o, none⟩ = W.cell? ⟨b, o, none⟩) ∧ (∀ b o, b < W.heap.size → w1.frozen? ⟨b, o, none⟩ = W.frozen? ⟨b, o, none⟩) :=
  ⟨fun b o h => hb.cell (p := ⟨b, o, none⟩) h, fun b o h => hb.frozen (p := ⟨b, o, none⟩) h⟩
theorem eq_set (a b c d a' b' c' d' : Int) (w : World) : (Op.equalIn 10000 24 (.agg #[.int .u64 a, .int .u64 b, .int .u64 c, .int .u64 d]) (.agg #[.int .u64 a', .int .u64 b', .int .u64 c', .int .u64 d'])).run Try.prog w = .ok (a == a' && b == b' && c == c' && d == d') w := by
  have u3 := Try.underlying22
  have a3 := Try.isAgg22
  have z3 := Try.sizeOf22
  rw [show (10000 : Nat) = 9999 + 1 from rfl, Op.equalIn]
  simp only [Sem.run_bind, run_underlying Try.underlying24, Result.andThen_ok]
  simp only [Std.Legacy.Range.forIn_eq_forIn_range', Std.Legacy.Range.size, Nat.sub_zero, Nat.add_sub_cancel, Nat.div_one, List.range'_succ, List.range'_zero, List.forIn_cons, List.forIn_nil]
  go_simp
  by_cases h1 : a = a' <;> by_cases h2 : b = b' <;> by_cases h3 : c = c' <;> by_cases h4 : d = d' <;> simp [h1, h2, h3, h4]
theorem eq_has (s : S4) (hs : s.ok) (x : Nat) (hx : x < 256) : (((withS s x).a : Int) == s.a && ((withS s x).b : Int) == s.b && ((withS s x).c : Int) == s.c && ((withS s x).d : Int) == s.d) = hasS s x := by
  rw [Bool.eq_iff_iff, ← with_same hs hx]
  simp only [Bool.and_eq_true, beq_iff_eq, Int.natCast_inj]
  constructor
  · rintro ⟨⟨⟨h1, h2⟩, h3⟩, h4⟩
    generalize withS s x = t at *
    cases s
    cases t
    simp_all
  · intro h
    rw [h]
    exact ⟨⟨⟨rfl, rfl⟩, rfl⟩, rfl⟩
theorem kHas_any (s : S4) (hs : s.ok) (x : Nat) (hx : x < 256) (w : World) :
    Calls Try.prog 13 #[.agg #[.int .u64 s.a, .int .u64 s.b, .int .u64 s.c, .int .u64 s.d], .int .u8 x] w fun e w' =>
      e = .returned (.bool (hasS s x)) ∧ Below w.heap.size w w' := by
  have hq := eq_set
  have he := eq_has s hs x hx
  go_enter Try.func13, Try.ntmps13
  go_wp2
  go_region_with (go_at_call 22; refine (kWith_any s hs x hx _).mono ?_; rintro e w1 ⟨rfl, hb⟩; obtain ⟨hc, hf⟩ := bcell hb)
  all_goals
    go_wp2
    go_ret
    exact ⟨rfl, bw_trans (Below.drew (bw_alloc (Below.refl _ _) _)) hb⟩
theorem rHas_any (s : S4) (hs : s.ok) (x : Nat) (hx : x < 256) (w : World) :
    Calls Try.prog 23 #[.agg #[.int .u64 s.a, .int .u64 s.b, .int .u64 s.c, .int .u64 s.d], .int .u8 x] w fun e w' =>
      e = .returned (.bool (hasS s x)) ∧ Below w.heap.size w w' := by
  obtain ⟨h1, h2, h3, h4⟩ := hs
  by_cases c1 : x < 64
  · have e : hasS s x = (bits BinOp.and IntKind.u64 ((s.a : Int) / 2 ^ x) 1 == 1) := by
      rw [bit_shown h1]
      simp [hasS, c1]
    rw [e]
    clear e
    have q1 : (x : Int) / 64 = 0 := by omega
    have q2 : (x : Int) % 64 = x := by omega
    go_enter Try.func23, Try.ntmps23
    go_wp2
    go_ret
    exact ⟨rfl, bw_alloc (Below.refl _ _) _⟩
  · skip
    by_cases c2 : x < 128
    · have e : hasS s x = (bits BinOp.and IntKind.u64 ((s.b : Int) / 2 ^ (x - 64)) 1 == 1) := by
        rw [bit_shown h2]
        simp [hasS, c1, c2]
      rw [e]
      clear e
      have q1 : (x : Int) / 64 = 1 := by omega
      have q2 : (x : Int) % 64 = x - 64 := by omega
      go_enter Try.func23, Try.ntmps23
      go_wp2
      go_ret
      exact ⟨rfl, bw_alloc (Below.refl _ _) _⟩
    · skip
      by_cases c3 : x < 192
      · have e : hasS s x = (bits BinOp.and IntKind.u64 ((s.c : Int) / 2 ^ (x - 128)) 1 == 1) := by
          rw [bit_shown h3]
          simp [hasS, c1, c2, c3]
        rw [e]
        clear e
        have q1 : (x : Int) / 64 = 2 := by omega
        have q2 : (x : Int) % 64 = x - 128 := by omega
        go_enter Try.func23, Try.ntmps23
        go_wp2
        go_ret
        exact ⟨rfl, bw_alloc (Below.refl _ _) _⟩
      · skip
        have e : hasS s x = (bits BinOp.and IntKind.u64 ((s.d : Int) / 2 ^ (x - 192)) 1 == 1) := by
          rw [bit_shown h4]
          simp [hasS, c1, c2, c3]
        rw [e]
        clear e
        have q1 : (x : Int) / 64 = 3 := by omega
        have q2 : (x : Int) % 64 = x - 192 := by omega
        go_enter Try.func23, Try.ntmps23
        go_wp2
        go_ret
        exact ⟨rfl, bw_alloc (Below.refl _ _) _⟩

theorem u64_range {n : Int} (h : (Lit.int .u64 n).wf = true) : ∃ k : Nat, n = k ∧ k < 18446744073709551616 := by
  have := bounds_u64 h
  exact ⟨n.toNat, by omega, by omega⟩
theorem u8_range {n : Int} (h : (Lit.int .u8 n).wf = true) : ∃ k : Nat, n = k ∧ k < 256 := by
  have := bounds_u8 h
  exact ⟨n.toNat, by omega, by omega⟩
theorem Try.cellsWord : Try.prog.cellsOf 22 = 1 := by kernel_rfl
theorem Try.cellsSet : Try.prog.cellsOf 24 = 4 := by kernel_rfl
theorem arr4 {cs : Array Value} (h : cs.size = 4) : ∃ a b c d, cs = #[a, b, c, d] := by
  obtain ⟨l⟩ := cs
  match l, h with
  | [a, b, c, d], _ => exact ⟨a, b, c, d, rfl⟩
/- a set that is handed in is four words -/
theorem set_form {H : Type} {enc : TypeId × Value → H} {W : World} {r : Reach} {b0 base : Nat} {spare : Nat → Bool} {held : Bool} {v : Value} {d : DataW H} {p : List MemPlace}
    (hv : Value.okWide Try.prog W r b0 24 v) (h : DataW.Trod enc Try.prog W base spare held 24 v d p) :
    ∃ s : S4, s.ok ∧ v = .agg #[.int .u64 s.a, .int .u64 s.b, .int .u64 s.c, .int .u64 s.d] := by
  simp only [Value.okWide, Try.underlying24] at hv
  obtain ⟨cs, rfl, hsz, _⟩ := hv
  obtain ⟨c0, c1, c2, c3, rfl⟩ := arr4 (hsz.trans Try.cellsSet)
  obtain ⟨fuel, hf⟩ := h
  obtain ⟨xs, m, rfl, _, _, hl, hi⟩ := DataW.trod_array Try.underlying24 hf
  match xs, hl with
  | [x0, x1, x2, x3], _ =>
    have y0 := hi 0 (by omega)
    have y1 := hi 1 (by omega)
    have y2 := hi 2 (by omega)
    have y3 := hi 3 (by omega)
    simp [Value.cells, Try.cellsWord] at y0 y1 y2 y3
    obtain ⟨n0, e0, _, w0⟩ := DataW.trod_int Try.underlying22 y0
    obtain ⟨n1, e1, _, w1⟩ := DataW.trod_int Try.underlying22 y1
    obtain ⟨n2, e2, _, w2⟩ := DataW.trod_int Try.underlying22 y2
    obtain ⟨n3, e3, _, w3⟩ := DataW.trod_int Try.underlying22 y3
    obtain ⟨k0, rfl, l0⟩ := u64_range w0
    obtain ⟨k1, rfl, l1⟩ := u64_range w1
    obtain ⟨k2, rfl, l2⟩ := u64_range w2
    obtain ⟨k3, rfl, l3⟩ := u64_range w3
    simp only [List.cons.injEq, and_true] at e0 e1 e2 e3
    subst e0 e1 e2 e3
    exact ⟨⟨k0, k1, k2, k3⟩, ⟨l0, l1, l2, l3⟩, rfl⟩
theorem keepB {B : Nat} {W0 W w2 : World} (hB : B ≤ W0.heap.size) (h : Below B W0 W) (hb : Below W.heap.size W w2) : Below B W0 w2 := h.trans (hb.mono (Nat.le_trans hB h.size))
theorem set_refl (s : S4) : ((s.a : Int) == s.a && (s.b : Int) == s.b && (s.c : Int) == s.c && (s.d : Int) == s.d) = true := by simp
def Box (w : World) (b : Nat) (s : S4) : Prop :=
  w.cell? ⟨b, 0, none⟩ = some (.int .u64 s.a) ∧ w.cell? ⟨b, 1, none⟩ = some (.int .u64 s.b) ∧ w.cell? ⟨b, 2, none⟩ = some (.int .u64 s.c) ∧ w.cell? ⟨b, 3, none⟩ = some (.int .u64 s.d)
theorem box_new (w : World) (s : S4) (t : TypeId) : Box (w.alloc (.cells #[.int .u64 s.a, .int .u64 s.b, .int .u64 s.c, .int .u64 s.d] t)) w.heap.size s := by
  unfold Box
  refine ⟨?_, ?_, ?_, ?_⟩ <;> go_simp
theorem Box.below {B : Nat} {W W' : World} {b : Nat} {s : S4} (h : Box W b s) (hb : Below B W W') (hB : b < B) : Box W' b s :=
  ⟨(hb.cell (p := ⟨b, 0, none⟩) hB).trans h.1, (hb.cell (p := ⟨b, 1, none⟩) hB).trans h.2.1, (hb.cell (p := ⟨b, 2, none⟩) hB).trans h.2.2.1, (hb.cell (p := ⟨b, 3, none⟩) hB).trans h.2.2.2⟩
theorem size_alloc (w : World) (o : Obj) : (w.alloc o).heap.size = w.heap.size + 1 := by
  show (w.heap.push _).size = _
  simp
theorem Box.alloc {w : World} {b : Nat} {s : S4} (h : Box w b s) (hb : b < w.heap.size) (o : Obj) : Box (w.alloc o) b s := h.below (bw_alloc (Below.refl _ _) o) hb

end Go.Proofs.Ytfbcmabpaecbjaa
