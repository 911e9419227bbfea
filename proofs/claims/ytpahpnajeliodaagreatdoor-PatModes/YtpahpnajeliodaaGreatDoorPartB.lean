/- Texts that the proof of the law stands on: Sets, Gather, Of, Read1, PHand, Read2, Pt, Snd0, Gm0, Inp0, Number. -/
import Derived.Test.YtpahpnajeliodaaGreatDoorPartA
import Derived.Laws.BitsAllLaws
import Derived.LoopTactic
import Derived.RegionTactic
import Derived.Deep.RegionWith
import Derived.Deep.RegionHeld3
/- The calls of package kind on sets (Has, With, Not, Both), and the document's, return just what plain functions of the four words say, and write nothing that was there. -/
namespace Go.Proofs.YtpahpnajeliodaaGreatDoor
open Go.ChangeShapes Go.WideShapes Go.ChangeAt Go.RowKit

theorem ret_set {a b c d a' b' c' d' : Int} (h1 : a = a') (h2 : b = b') (h3 : c = c') (h4 : d = d') :
    Ending.returned (.agg #[.int .u64 a, .int .u64 b, .int .u64 c, .int .u64 d]) = .returned (.agg #[.int .u64 a', .int .u64 b', .int .u64 c', .int .u64 d']) := by
  rw [h1, h2, h3, h4]
theorem bit_lt {j : Nat} (hj : j < 64) : 2 ^ j < 18446744073709551616 := by
  rw [p64]
  exact Nat.pow_lt_pow_right (by decide) hj
theorem wrap_bit {j : Nat} (hj : j < 64) : IntKind.u64.wrap (2 ^ j) = ((2 ^ j : Nat) : Int) := by
  have h := bit_lt hj
  rw [IntKind.wrap_u64, show ((2 : Int) ^ j) = ((2 ^ j : Nat) : Int) from by simp]
  generalize 2 ^ j = n at h
  exact Int.emod_eq_of_lt (by omega) (by omega)
theorem or_bit0 {x j : Nat} (hx : x < 18446744073709551616) (hj : j < 64) : bits BinOp.or IntKind.u64 (x : Int) (IntKind.u64.wrap (2 ^ j)) = ((x ||| 2 ^ j : Nat) : Int) := by
  rw [wrap_bit hj]
  exact u64_or_nat x (2 ^ j) hx (bit_lt hj)

theorem kWith_any (s : S4) (hs : s.ok) (x : Nat) (hx : x < 256) (w : World) :
    Calls Tryz.prog 104 #[.agg #[.int .u64 s.a, .int .u64 s.b, .int .u64 s.c, .int .u64 s.d], .int .u8 x] w fun e w' =>
      e = .returned (.agg #[.int .u64 (withS s x).a, .int .u64 (withS s x).b, .int .u64 (withS s x).c, .int .u64 (withS s x).d]) ∧ Below w.heap.size w w' := by
  obtain ⟨h1, h2, h3, h4⟩ := hs
  by_cases c1 : x < 64
  · have e : withS s x = ⟨s.a ||| 2 ^ x, s.b, s.c, s.d⟩ := by simp [withS, c1]
    rw [e]
    have q1 : (x : Int) / 64 = 0 := by omega
    have q2 : (x : Int) % 64 = x := by omega
    clear e
    go_enter Tryz.func104, Tryz.ntmps104
    go_wp2
    exact bodyPost_ret (v := .agg #[.int .u64 (bits BinOp.or IntKind.u64 (s.a : Int) (IntKind.u64.wrap (2 ^ x))), .int .u64 s.b, .int .u64 s.c, .int .u64 s.d]) (by simp [results, Tryz.results104, go_sem]) rfl ⟨ret_set (or_bit0 h1 (by omega)) rfl rfl rfl, bw_alloc (bw_alloc (Below.refl _ _) _) _⟩
  · skip
    by_cases c2 : x < 128
    · have e : withS s x = ⟨s.a, s.b ||| 2 ^ (x - 64), s.c, s.d⟩ := by simp [withS, c1, c2]
      rw [e]
      have q1 : (x : Int) / 64 = 1 := by omega
      have q2 : (x : Int) % 64 = x - 64 := by omega
      clear e
      go_enter Tryz.func104, Tryz.ntmps104
      go_wp2
      exact bodyPost_ret (v := .agg #[.int .u64 s.a, .int .u64 (bits BinOp.or IntKind.u64 (s.b : Int) (IntKind.u64.wrap (2 ^ (x - 64)))), .int .u64 s.c, .int .u64 s.d]) (by simp [results, Tryz.results104, go_sem]) rfl ⟨ret_set rfl (or_bit0 h2 (by omega)) rfl rfl, bw_alloc (bw_alloc (Below.refl _ _) _) _⟩
    · skip
      by_cases c3 : x < 192
      · have e : withS s x = ⟨s.a, s.b, s.c ||| 2 ^ (x - 128), s.d⟩ := by simp [withS, c1, c2, c3]
        rw [e]
        have q1 : (x : Int) / 64 = 2 := by omega
        have q2 : (x : Int) % 64 = x - 128 := by omega
        clear e
        go_enter Tryz.func104, Tryz.ntmps104
        go_wp2
        exact bodyPost_ret (v := .agg #[.int .u64 s.a, .int .u64 s.b, .int .u64 (bits BinOp.or IntKind.u64 (s.c : Int) (IntKind.u64.wrap (2 ^ (x - 128)))), .int .u64 s.d]) (by simp [results, Tryz.results104, go_sem]) rfl ⟨ret_set rfl rfl (or_bit0 h3 (by omega)) rfl, bw_alloc (bw_alloc (Below.refl _ _) _) _⟩
      · skip
        have e : withS s x = ⟨s.a, s.b, s.c, s.d ||| 2 ^ (x - 192)⟩ := by simp [withS, c1, c2, c3]
        rw [e]
        have q1 : (x : Int) / 64 = 3 := by omega
        have q2 : (x : Int) % 64 = x - 192 := by omega
        clear e
        go_enter Tryz.func104, Tryz.ntmps104
        go_wp2
        exact bodyPost_ret (v := .agg #[.int .u64 s.a, .int .u64 s.b, .int .u64 s.c, .int .u64 (bits BinOp.or IntKind.u64 (s.d : Int) (IntKind.u64.wrap (2 ^ (x - 192))))]) (by simp [results, Tryz.results104, go_sem]) rfl ⟨ret_set rfl rfl rfl (or_bit0 h4 (by omega)), bw_alloc (bw_alloc (Below.refl _ _) _) _⟩
-- END

theorem sgn : IntKind.u64.signed = false := rfl
theorem not_word {x : Nat} (hx : x < 18446744073709551616) : bits BinOp.xor IntKind.u64 IntKind.u64.max (x : Int) = ((notW x : Nat) : Int) := by
  rw [show IntKind.u64.max = ((mask : Nat) : Int) from by decide, u64_xor_nat mask x (by unfold mask; decide) hx, notW_eq]
theorem kNot_any (s : S4) (hs : s.ok) (w : World) :
    Calls Tryz.prog 95 #[.agg #[.int .u64 s.a, .int .u64 s.b, .int .u64 s.c, .int .u64 s.d]] w fun e w' =>
      e = .returned (.agg #[.int .u64 (notS s).a, .int .u64 (notS s).b, .int .u64 (notS s).c, .int .u64 (notS s).d]) ∧ Below w.heap.size w w' := by
  have hsg := sgn
  go_enter Tryz.func95, Tryz.ntmps95
  go_wp2
  refine wp_loop_rounds 5 ?_
  rw [rounds_succ]
  go_wp2
  rw [rounds_succ]
  go_wp2
  rw [rounds_succ]
  go_wp2
  rw [rounds_succ]
  go_wp2
  rw [rounds_succ]
  go_wp2
  exact bodyPost_ret (v := .agg #[.int .u64 (bits BinOp.xor IntKind.u64 IntKind.u64.max s.a), .int .u64 (bits BinOp.xor IntKind.u64 IntKind.u64.max s.b), .int .u64 (bits BinOp.xor IntKind.u64 IntKind.u64.max s.c), .int .u64 (bits BinOp.xor IntKind.u64 IntKind.u64.max s.d)]) (by simp [results, Tryz.results95, go_sem]) rfl
    ⟨ret_set (not_word hs.1) (not_word hs.2.1) (not_word hs.2.2.1) (not_word hs.2.2.2), bw_alloc (bw_alloc (Below.refl _ _) _) _⟩
-- END
theorem kBoth_any (s t : S4) (hs : s.ok) (ht : t.ok) (w : World) :
    Calls Tryz.prog 108 #[.agg #[.int .u64 s.a, .int .u64 s.b, .int .u64 s.c, .int .u64 s.d], .agg #[.int .u64 t.a, .int .u64 t.b, .int .u64 t.c, .int .u64 t.d]] w fun e w' =>
      e = .returned (.agg #[.int .u64 (bothS s t).a, .int .u64 (bothS s t).b, .int .u64 (bothS s t).c, .int .u64 (bothS s t).d]) ∧ Below w.heap.size w w' := by
  have hsg := sgn
  go_enter Tryz.func108, Tryz.ntmps108
  go_wp2
  refine wp_loop_rounds 5 ?_
  rw [rounds_succ]
  go_wp2
  go_region
  go_wp2
  rw [rounds_succ]
  go_wp2
  go_region
  go_wp2
  rw [rounds_succ]
  go_wp2
  go_region
  go_wp2
  rw [rounds_succ]
  go_wp2
  go_region
  go_wp2
  rw [rounds_succ]
  go_wp2
  exact bodyPost_ret (v := .agg #[.int .u64 (bits BinOp.or IntKind.u64 s.a t.a), .int .u64 (bits BinOp.or IntKind.u64 s.b t.b), .int .u64 (bits BinOp.or IntKind.u64 s.c t.c), .int .u64 (bits BinOp.or IntKind.u64 s.d t.d)]) (by simp [results, Tryz.results108, go_sem]) rfl
    ⟨ret_set (u64_or_nat _ _ hs.1 ht.1) (u64_or_nat _ _ hs.2.1 ht.2.1) (u64_or_nat _ _ hs.2.2.1 ht.2.2.1) (u64_or_nat _ _ hs.2.2.2 ht.2.2.2), by repeat (first | exact Below.refl _ _ | refine Below.drew ?_ | refine bw_alloc ?_ _)⟩
-- END
theorem bit_shown {n j : Nat} (hn : n < 18446744073709551616) : (bits BinOp.and IntKind.u64 ((n : Int) / 2 ^ j) 1 == 1) = n.testBit j := by
  have h : n / 2 ^ j < 18446744073709551616 := Nat.lt_of_le_of_lt (Nat.div_le_self _ _) hn
  rw [show ((n : Int) / 2 ^ j) = ((n / 2 ^ j : Nat) : Int) from by simp, show (1 : Int) = ((1 : Nat) : Int) from rfl, u64_and_nat (n / 2 ^ j) 1 h (by decide), nat_mask1, Nat.testBit_eq_decide_div_mod_eq, Bool.eq_iff_iff]
  simp only [beq_iff_eq, decide_eq_true_eq]
  omega
theorem bcell {W w1 : World} (hb : Below W.heap.size W w1) : (∀ b o, b < W.heap.size → w1.cell? ⟨b, o, none⟩ = W.cell? ⟨b, o, none⟩) ∧ (∀ b o, b < W.heap.size → w1.frozen? ⟨b, o, none⟩ = W.frozen? ⟨b, o, none⟩) :=
  ⟨fun b o h => hb.cell (p := ⟨b, o, none⟩) h, fun b o h => hb.frozen (p := ⟨b, o, none⟩) h⟩
theorem eq_set (a b c d a' b' c' d' : Int) (w : World) : (Op.equalIn 10000 70 (.agg #[.int .u64 a, .int .u64 b, .int .u64 c, .int .u64 d]) (.agg #[.int .u64 a', .int .u64 b', .int .u64 c', .int .u64 d'])).run Tryz.prog w = .ok (a == a' && b == b' && c == c' && d == d') w := by
  have u3 := Tryz.underlying68
  have a3 := Tryz.isAgg68
  have z3 := Tryz.sizeOf68
  rw [show (10000 : Nat) = 9999 + 1 from rfl, Op.equalIn]
  simp only [Sem.run_bind, run_underlying Tryz.underlying70, Result.andThen_ok]
  simp only [Std.Legacy.Range.forIn_eq_forIn_range', Std.Legacy.Range.size, Nat.sub_zero, Nat.add_sub_cancel, Nat.div_one, List.range'_succ, List.range'_zero, List.forIn_cons, List.forIn_nil]
  go_simp
  by_cases h1 : a = a' <;> by_cases h2 : b = b' <;> by_cases h3 : c = c' <;> by_cases h4 : d = d' <;> simp [h1, h2, h3, h4]
theorem eq_has (s : S4) (hs : s.ok) (x : Nat) (hx : x < 256) : (((withS s x).a : Int) == s.a && ((withS s x).b : Int) == s.b && ((withS s x).c : Int) == s.c && ((withS s x).d : Int) == s.d) = hasS s x := by
  rw [Bool.eq_iff_iff, ← with_same hs hx]
  simp only [Bool.and_eq_true, beq_iff_eq, Int.natCast_inj]
  constructor
  · rintro ⟨⟨⟨h1, h2⟩, h3⟩, h4⟩
    generalize withS s x = t at *
    cases s
    cases t
    simp_all
  · intro h
    rw [h]
    exact ⟨⟨⟨rfl, rfl⟩, rfl⟩, rfl⟩
-- END

theorem u64_range {n : Int} (h : (Lit.int .u64 n).wf = true) : ∃ k : Nat, n = k ∧ k < 18446744073709551616 := by
  have := bounds_u64 h
  exact ⟨n.toNat, by omega, by omega⟩
theorem u8_range {n : Int} (h : (Lit.int .u8 n).wf = true) : ∃ k : Nat, n = k ∧ k < 256 := by
  have := bounds_u8 h
  exact ⟨n.toNat, by omega, by omega⟩
theorem Tryz.cellsWord : Tryz.prog.cellsOf 68 = 1 := by kernel_rfl
theorem Tryz.cellsSet : Tryz.prog.cellsOf 70 = 4 := by kernel_rfl
theorem arr4 {cs : Array Value} (h : cs.size = 4) : ∃ a b c d, cs = #[a, b, c, d] := by
  obtain ⟨l⟩ := cs
  match l, h with
  | [a, b, c, d], _ => exact ⟨a, b, c, d, rfl⟩
/- a set that is handed in is four words -/
set_option maxRecDepth 100000 in
theorem set_form {H : Type} {enc : TypeId × Value → H} {W : World} {r : Reach} {b0 base : Nat} {spare : Nat → Bool} {held : Bool} {v : Value} {d : DataW H} {p : List MemPlace}
    (hv : Value.okWide Tryz.prog W r b0 70 v) (h : DataW.Trod enc Tryz.prog W base spare held 70 v d p) :
    ∃ s : S4, s.ok ∧ v = .agg #[.int .u64 s.a, .int .u64 s.b, .int .u64 s.c, .int .u64 s.d] := by
  simp only [Value.okWide, Tryz.underlying70] at hv
  obtain ⟨cs, rfl, hsz, _⟩ := hv
  obtain ⟨c0, c1, c2, c3, rfl⟩ := arr4 (hsz.trans Tryz.cellsSet)
  obtain ⟨fuel, hf⟩ := h
  obtain ⟨xs, m, rfl, _, _, hl, hi⟩ := DataW.trod_array Tryz.underlying70 hf
  match xs, hl with
  | [x0, x1, x2, x3], _ =>
    have y0 := hi 0 (by omega)
    have y1 := hi 1 (by omega)
    have y2 := hi 2 (by omega)
    have y3 := hi 3 (by omega)
    simp [Value.cells, Tryz.cellsWord] at y0 y1 y2 y3
    obtain ⟨n0, e0, _, w0⟩ := DataW.trod_int Tryz.underlying68 y0
    obtain ⟨n1, e1, _, w1⟩ := DataW.trod_int Tryz.underlying68 y1
    obtain ⟨n2, e2, _, w2⟩ := DataW.trod_int Tryz.underlying68 y2
    obtain ⟨n3, e3, _, w3⟩ := DataW.trod_int Tryz.underlying68 y3
    obtain ⟨k0, rfl, l0⟩ := u64_range w0
    obtain ⟨k1, rfl, l1⟩ := u64_range w1
    obtain ⟨k2, rfl, l2⟩ := u64_range w2
    obtain ⟨k3, rfl, l3⟩ := u64_range w3
    simp only [List.cons.injEq, and_true] at e0 e1 e2 e3
    subst e0 e1 e2 e3
    exact ⟨⟨k0, k1, k2, k3⟩, ⟨l0, l1, l2, l3⟩, rfl⟩
theorem keepB {B : Nat} {W0 W w2 : World} (hB : B ≤ W0.heap.size) (h : Below B W0 W) (hb : Below W.heap.size W w2) : Below B W0 w2 := h.trans (hb.mono (Nat.le_trans hB h.size))
theorem set_refl (s : S4) : ((s.a : Int) == s.a && (s.b : Int) == s.b && (s.c : Int) == s.c && (s.d : Int) == s.d) = true := by simp
def Box (w : World) (b : Nat) (s : S4) : Prop :=
  w.cell? ⟨b, 0, none⟩ = some (.int .u64 s.a) ∧ w.cell? ⟨b, 1, none⟩ = some (.int .u64 s.b) ∧ w.cell? ⟨b, 2, none⟩ = some (.int .u64 s.c) ∧ w.cell? ⟨b, 3, none⟩ = some (.int .u64 s.d)
theorem box_new (w : World) (s : S4) (t : TypeId) : Box (w.alloc (.cells #[.int .u64 s.a, .int .u64 s.b, .int .u64 s.c, .int .u64 s.d] t)) w.heap.size s := by
  unfold Box
  refine ⟨?_, ?_, ?_, ?_⟩ <;> go_simp
theorem Box.below {B : Nat} {W W' : World} {b : Nat} {s : S4} (h : Box W b s) (hb : Below B W W') (hB : b < B) : Box W' b s :=
  ⟨(hb.cell (p := ⟨b, 0, none⟩) hB).trans h.1, (hb.cell (p := ⟨b, 1, none⟩) hB).trans h.2.1, (hb.cell (p := ⟨b, 2, none⟩) hB).trans h.2.2.1, (hb.cell (p := ⟨b, 3, none⟩) hB).trans h.2.2.2⟩
theorem size_alloc (w : World) (o : Obj) : (w.alloc o).heap.size = w.heap.size + 1 := by
  show (w.heap.push _).size = _
  simp
theorem Box.alloc {w : World} {b : Nat} {s : S4} (h : Box w b s) (hb : b < w.heap.size) (o : Obj) : Box (w.alloc o) b s := h.below (bw_alloc (Below.refl _ _) o) hb

end Go.Proofs.YtpahpnajeliodaaGreatDoor
/- gather of package kind makes just the set of the bytes for which its function says yes, and writes nothing that was there. -/
namespace Go.Proofs.YtpahpnajeliodaaGreatDoor
open Go.ChangeShapes Go.WideShapes Go.ChangeAt Go.RowKit

structure Open (w : World) (b : Nat) : Prop where
  f0 : w.frozen? ⟨b, 0, none⟩ = false
  f1 : w.frozen? ⟨b, 1, none⟩ = false
  f2 : w.frozen? ⟨b, 2, none⟩ = false
  f3 : w.frozen? ⟨b, 3, none⟩ = false
theorem Open.below {B : Nat} {W W' : World} {b : Nat} (h : Open W b) (hb : Below B W W') (hB : b < B) : Open W' b :=
  ⟨(hb.frozen (p := ⟨b, 0, none⟩) hB).trans h.f0, (hb.frozen (p := ⟨b, 1, none⟩) hB).trans h.f1, (hb.frozen (p := ⟨b, 2, none⟩) hB).trans h.f2, (hb.frozen (p := ⟨b, 3, none⟩) hB).trans h.f3⟩
theorem open_new (w : World) (cs : Array Value) (t : TypeId) : Open (w.alloc (.cells cs t)) w.heap.size := by
  constructor <;> go_simp
def put4 (w : World) (b : Nat) (s : S4) : World :=
  (((w.setCell ⟨b, 0, none⟩ (.int .u64 s.a)).setCell ⟨b, 1, none⟩ (.int .u64 s.b)).setCell ⟨b, 2, none⟩ (.int .u64 s.c)).setCell ⟨b, 3, none⟩ (.int .u64 s.d)
theorem far {b c i j : Nat} (h : b ≠ c ∨ i ≠ j) : (⟨b, i, none⟩ : Addr) ≠ ⟨c, j, none⟩ := by
  intro e
  simp only [Addr.mk.injEq, and_true] at e
  omega
theorem cell_put4 (w : World) (b c i : Nat) (s : S4) (h : b ≠ c) : (put4 w b s).cell? ⟨c, i, none⟩ = w.cell? ⟨c, i, none⟩ := by
  unfold put4
  rw [World.cell?_setCell_other _ _ _ _ (far (.inl h)), World.cell?_setCell_other _ _ _ _ (far (.inl h)), World.cell?_setCell_other _ _ _ _ (far (.inl h)), World.cell?_setCell_other _ _ _ _ (far (.inl h))]
theorem frozen_put4 (w : World) (b : Nat) (s : S4) (a : Addr) : (put4 w b s).frozen? a = w.frozen? a := by
  unfold put4
  simp only [World.frozen?_setCell]
theorem size_put4 (w : World) (b : Nat) (s : S4) : (put4 w b s).heap.size = w.heap.size := by
  unfold put4
  simp only [World.size_setCell]
theorem Box.put4 {w : World} {b : Nat} {t : S4} (h : Box w b t) (s : S4) : Box (put4 w b s) b s := by
  obtain ⟨h0, h1, h2, h3⟩ := h
  unfold Go.Proofs.YtpahpnajeliodaaGreatDoor.put4
  refine ⟨?_, ?_, ?_, ?_⟩
  · rw [World.cell?_setCell_other _ _ _ _ (far (.inr (by decide))), World.cell?_setCell_other _ _ _ _ (far (.inr (by decide))), World.cell?_setCell_other _ _ _ _ (far (.inr (by decide)))]
    exact World.cell?_setCell_same _ _ _ h0
  · rw [World.cell?_setCell_other _ _ _ _ (far (.inr (by decide))), World.cell?_setCell_other _ _ _ _ (far (.inr (by decide)))]
    exact World.cell?_setCell_same _ _ _ (by rw [World.cell?_setCell_other _ _ _ _ (far (.inr (by decide)))]; exact h1)
  · rw [World.cell?_setCell_other _ _ _ _ (far (.inr (by decide)))]
    exact World.cell?_setCell_same _ _ _ (by rw [World.cell?_setCell_other _ _ _ _ (far (.inr (by decide))), World.cell?_setCell_other _ _ _ _ (far (.inr (by decide)))]; exact h2)
  · exact World.cell?_setCell_same _ _ _ (by rw [World.cell?_setCell_other _ _ _ _ (far (.inr (by decide))), World.cell?_setCell_other _ _ _ _ (far (.inr (by decide))), World.cell?_setCell_other _ _ _ _ (far (.inr (by decide)))]; exact h3)
theorem below_put4 {B : Nat} {W w : World} (h : Below B W w) {b : Nat} (hb : B ≤ b) (s : S4) : Below B W (put4 w b s) :=
  (((h.setCell (p := ⟨b, 0, none⟩) hb _).setCell (p := ⟨b, 1, none⟩) hb _).setCell (p := ⟨b, 2, none⟩) hb _).setCell (p := ⟨b, 3, none⟩) hb _
/- what holds at the head of each round: the result's box, the set's box, nothing that was there has turned -/
structure Inv (w wr : World) (s : S4) : Prop where
  s : Box wr (w.heap.size + 1) s
  r : Box wr w.heap.size zeroS
  fs : Open wr (w.heap.size + 1)
  fr : Open wr w.heap.size
  bw : Below w.heap.size w wr
  sz : w.heap.size + 2 ≤ wr.heap.size
theorem Inv.below {w wr w1 : World} {s : S4} (h : Inv w wr s) (hb : Below wr.heap.size wr w1) : Inv w w1 s :=
  ⟨h.s.below hb (by have := h.sz; omega), h.r.below hb (by have := h.sz; omega), h.fs.below hb (by have := h.sz; omega), h.fr.below hb (by have := h.sz; omega), h.bw.trans (hb.mono h.bw.size), Nat.le_trans h.sz hb.size⟩
theorem Inv.put {w wr : World} {s : S4} (h : Inv w wr s) (t : S4) : Inv w (put4 wr (w.heap.size + 1) t) t :=
  ⟨h.s.put4 t, ⟨(cell_put4 _ _ _ _ _ (by omega)).trans h.r.1, (cell_put4 _ _ _ _ _ (by omega)).trans h.r.2.1, (cell_put4 _ _ _ _ _ (by omega)).trans h.r.2.2.1, (cell_put4 _ _ _ _ _ (by omega)).trans h.r.2.2.2⟩,
    ⟨(frozen_put4 _ _ _ _).trans h.fs.f0, (frozen_put4 _ _ _ _).trans h.fs.f1, (frozen_put4 _ _ _ _).trans h.fs.f2, (frozen_put4 _ _ _ _).trans h.fs.f3⟩,
    ⟨(frozen_put4 _ _ _ _).trans h.fr.f0, (frozen_put4 _ _ _ _).trans h.fr.f1, (frozen_put4 _ _ _ _).trans h.fr.f2, (frozen_put4 _ _ _ _).trans h.fr.f3⟩,
    below_put4 h.bw (by omega) t, by rw [size_put4]; exact h.sz⟩
theorem inv_start (w : World) (t : TypeId) : Inv w ((w.alloc (.cells #[.int .u64 0, .int .u64 0, .int .u64 0, .int .u64 0] t)).alloc (.cells #[.int .u64 0, .int .u64 0, .int .u64 0, .int .u64 0] t)) zeroS := by
  have b1 := box_new w zeroS t
  have b2 := box_new (w.alloc (.cells #[.int .u64 0, .int .u64 0, .int .u64 0, .int .u64 0] t)) zeroS t
  have o1 := open_new w #[.int .u64 0, .int .u64 0, .int .u64 0, .int .u64 0] t
  have o2 := open_new (w.alloc (.cells #[.int .u64 0, .int .u64 0, .int .u64 0, .int .u64 0] t)) #[.int .u64 0, .int .u64 0, .int .u64 0, .int .u64 0] t
  rw [size_alloc] at b2 o2
  exact ⟨b2, b1.alloc (by simp only [size_alloc]; omega) _, o2, o1.below (bw_alloc (Below.refl _ _) _) (by simp only [size_alloc]; omega), bw_alloc (bw_alloc (Below.refl _ _) _) _, by simp only [size_alloc]; omega⟩
theorem fold_no {f : Int → Bool} {k : Nat} (h : f k = false) : foldS f (k + 1) = foldS f k := by simp [foldS, h]
theorem fold_yes {f : Int → Bool} {k : Nat} (h : f k = true) : foldS f (k + 1) = withS (foldS f k) k := by simp [foldS, h]

set_option maxRecDepth 100000 in
theorem gather_any (f : Int → Bool) (g : Value) (hh : Hid (∀ (c : Nat) (w : World), c < 256 → Calls Tryz.prog 98 #[g, .int .u8 c] w fun e w' => e = .returned (.bool (f c)) ∧ Below w.heap.size w w')) (w : World) :
    Calls Tryz.prog 97 #[.func (Fn.func 98) #[g] #[]] w fun e w' =>
      e = .returned (.agg #[.int .u64 (foldS f 256).a, .int .u64 (foldS f 256).b, .int .u64 (foldS f 256).c, .int .u64 (foldS f 256).d]) ∧ Below w.heap.size w w' := by
  go_enter Tryz.func97, Tryz.ntmps97
  go_wp2
  go_loopw [6] (fun i wr => ∃ k : Nat, k ≤ 256 ∧ i = .int .i64 k ∧ Inv w wr (foldS f k)) (fun i _ => 256 - (intOf i).toNat)
  case atStart => exact ⟨0, Nat.zero_le _, rfl, inv_start w 70⟩
  case round =>
    obtain ⟨k, hk, rfl, hI⟩ := hrel
    by_cases hlt : k < 256
    · cases hf : f k
      · have hF := fold_no hf
        go_wp2_with fail
        refine (hh.out k _ hlt).mono ?_
        rintro e w1 ⟨rfl, hb⟩
        have hI1 := hI.below hb
        have HF : Hid (foldS f (k + 1) = foldS f k) := hF
        clear hF
        go_wp2
        go_roundw
        case rel => exact ⟨k + 1, by omega, by go_num, by rw [HF.out]; exact hI1⟩
        case measure => simp [intOf]; omega
      · have HF : Hid (foldS f (k + 1) = withS (foldS f k) k) := fold_yes hf
        go_wp2_with fail
        refine (hh.out k _ hlt).mono ?_
        rintro e w1 ⟨rfl, hb⟩
        have hI1 := hI.below hb
        obtain ⟨c0, c1, c2, c3⟩ := hI1.s
        go_wp2_with fail
        refine (kWith_any (foldS f k) (ok_fold f k hk) k hlt _).mono ?_
        rintro e w2 ⟨rfl, hb2⟩
        have hI2 := hI1.below hb2
        obtain ⟨d0, d1, d2, d3⟩ := hI2.s
        obtain ⟨f0, f1, f2, f3⟩ := hI2.fs
        clear c0 c1 c2 c3
        go_wp2
        go_roundw
        case rel => exact ⟨k + 1, by omega, by go_num, by rw [HF.out]; exact hI2.put _⟩
        case measure => simp [intOf]; omega
    · have hk2 : k = 256 := by omega
      subst hk2
      obtain ⟨c0, c1, c2, c3⟩ := hI.s
      obtain ⟨d0, d1, d2, d3⟩ := hI.r
      obtain ⟨f0, f1, f2, f3⟩ := hI.fr
      go_wp2
      obtain ⟨r0, r1, r2, r3⟩ := hI.r.put4 (foldS f 256)
      have hbl := below_put4 hI.bw (Nat.le_refl _) (foldS f 256)
      show bodyPost _ _ _ _ _ (put4 wr w.heap.size (foldS f 256))
      generalize put4 wr w.heap.size (foldS f 256) = wz at *
      exact bodyPost_ret (v := .agg #[.int .u64 (foldS f 256).a, .int .u64 (foldS f 256).b, .int .u64 (foldS f 256).c, .int .u64 (foldS f 256).d]) (by simp [results, Tryz.results97, go_sem, r0, r1, r2, r3]) rfl ⟨rfl, hbl⟩

end Go.Proofs.YtpahpnajeliodaaGreatDoor
/- Of of package kind returns just the set of the bytes of its class (or nothing, false), and so does the document's; neither writes anything that was there. -/
namespace Go.Proofs.YtpahpnajeliodaaGreatDoor
open Go.ChangeShapes Go.WideShapes Go.ChangeAt Go.RowKit

theorem kOf_no {k : Int} (h : fnum (smI k) = none) (w : World) :
    Calls Tryz.prog 83 #[.int .u8 k] w fun e w' => e = .returned (.tuple #[.agg #[.int .u64 0, .int .u64 0, .int .u64 0, .int .u64 0], .bool false]) ∧ Below w.heap.size w w' := by
  go_enter Tryz.func83, Tryz.ntmps83
  go_wp2_with fail
  refine (classOf_no h _).mono ?_
  rintro e w1 ⟨rfl, hb1⟩
  have b1 : Box w1 w.heap.size zeroS := (box_new w zeroS 70).below hb1 (by simp only [size_alloc]; omega)
  have o1 : Open w1 w.heap.size := (open_new w _ 70).below hb1 (by simp only [size_alloc]; omega)
  have hz : w.heap.size < w1.heap.size := by have := hb1.size; rw [size_alloc] at this; omega
  have hb : Below w.heap.size w w1 := bw_trans (bw_alloc (Below.refl _ _) _) hb1
  have bz := (b1.put4 zeroS).alloc (by rw [size_put4]; exact hz) (.cells #[.nilFunc, .bool false] 145)
  obtain ⟨c0, c1, c2, c3⟩ := b1
  obtain ⟨f0, f1, f2, f3⟩ := o1
  clear hb1
  have HZ : Hid (Box ((put4 w1 w.heap.size zeroS).alloc (.cells #[.nilFunc, .bool false] 145)) w.heap.size zeroS) := bz
  clear bz
  go_wp2
  show bodyPost _ _ _ _ _ ((put4 w1 w.heap.size zeroS).alloc (.cells #[.nilFunc, .bool false] 145))
  obtain ⟨r0, r1, r2, r3⟩ := HZ.out
  have hbl := bw_alloc (below_put4 hb (Nat.le_refl _) zeroS) (.cells #[.nilFunc, .bool false] 145)
  generalize (put4 w1 w.heap.size zeroS).alloc (.cells #[.nilFunc, .bool false] 145) = wz at *
  exact bodyPost_ret (v := .tuple #[.agg #[.int .u64 zeroS.a, .int .u64 zeroS.b, .int .u64 zeroS.c, .int .u64 zeroS.d], .bool false]) (by simp [results, Tryz.results83, go_sem, r0, r1, r2, r3]) rfl ⟨rfl, hbl⟩

theorem kOf_yes {k : Int} {n : Nat} (h : fnum (smI k) = some n) (w : World) :
    Calls Tryz.prog 83 #[.int .u8 k] w fun e w' =>
      e = .returned (.tuple #[.agg #[.int .u64 (foldS (isB k) 256).a, .int .u64 (foldS (isB k) 256).b, .int .u64 (foldS (isB k) 256).c, .int .u64 (foldS (isB k) 256).d], .bool true]) ∧ Below w.heap.size w w' := by
  have hh : Hid (∀ (c : Nat) (w : World), c < 256 → Calls Tryz.prog 98 #[.agg #[.func (Fn.func n) #[] #[], .bool (smI k != k)], .int .u8 c] w fun e w' => e = .returned (.bool (isB k c)) ∧ Below w.heap.size w w') := by
    intro c w _
    unfold isB
    rw [fnum_is h, ← great_is k, Bool.true_and]
    exact ghas_any h _ _ _
  go_enter Tryz.func83, Tryz.ntmps83
  go_wp2_with fail
  refine (classOf_yes h _).mono ?_
  rintro e w1 ⟨rfl, hb1⟩
  have b1 : Box w1 w.heap.size zeroS := (box_new w zeroS 70).below hb1 (by simp only [size_alloc]; omega)
  have o1 : Open w1 w.heap.size := (open_new w _ 70).below hb1 (by simp only [size_alloc]; omega)
  have hz : w.heap.size < w1.heap.size := by have := hb1.size; rw [size_alloc] at this; omega
  have hb : Below w.heap.size w w1 := bw_trans (bw_alloc (Below.refl _ _) _) hb1
  clear hb1
  go_wp2_with fail
  refine (gather_any (isB k) _ hh _).mono ?_
  rintro e w2 ⟨rfl, hb2⟩
  have b2 : Box w2 w.heap.size zeroS := (b1.alloc hz _).below hb2 (by simp only [size_alloc]; omega)
  have o2 : Open w2 w.heap.size := (o1.below (bw_alloc (Below.refl _ _) _) hz).below hb2 (by simp only [size_alloc]; omega)
  have hb' : Below w.heap.size w w2 := bw_trans (bw_alloc hb _) hb2
  obtain ⟨r0, r1, r2, r3⟩ := b2.put4 (foldS (isB k) 256)
  have R0 : Hid _ := r0
  have R1 : Hid _ := r1
  have R2 : Hid _ := r2
  have R3 : Hid _ := r3
  obtain ⟨c0, c1, c2, c3⟩ := b2
  obtain ⟨f0, f1, f2, f3⟩ := o2
  clear hb2 b1 o1 hb r0 r1 r2 r3
  go_wp2
  show bodyPost _ _ _ _ _ (put4 w2 w.heap.size (foldS (isB k) 256))
  have hbl := below_put4 hb' (Nat.le_refl _) (foldS (isB k) 256)
  have r0 := R0.out
  have r1 := R1.out
  have r2 := R2.out
  have r3 := R3.out
  clear R0 R1 R2 R3
  generalize put4 w2 w.heap.size (foldS (isB k) 256) = wz at *
  generalize foldS (isB k) 256 = s at *
  exact bodyPost_ret (v := .tuple #[.agg #[.int .u64 s.a, .int .u64 s.b, .int .u64 s.c, .int .u64 s.d], .bool true]) (by simp [results, Tryz.results83, go_sem, r0, r1, r2, r3]) rfl ⟨rfl, hbl⟩

/- both in one: what is no class has none -/
theorem isB_no {k : Int} (h : fnum (smI k) = none) (c : Int) : isB k c = false := by
  unfold isB
  rw [fnum_none h, Bool.false_and]
theorem fold_none {f : Int → Bool} (h : ∀ c, f c = false) : ∀ n, foldS f n = zeroS
  | 0 => rfl
  | n + 1 => by unfold foldS; rw [h n, fold_none h n]; rfl
theorem kOf_any (k : Int) (w : World) :
    Calls Tryz.prog 83 #[.int .u8 k] w fun e w' =>
      e = .returned (.tuple #[.agg #[.int .u64 (foldS (isB k) 256).a, .int .u64 (foldS (isB k) 256).b, .int .u64 (foldS (isB k) 256).c, .int .u64 (foldS (isB k) 256).d], .bool (knB (smI k))]) ∧ Below w.heap.size w w' := by
  cases h : fnum (smI k) with
  | none =>
    rw [fold_none (isB_no h) 256, fnum_none h]
    exact kOf_no h w
  | some n =>
    rw [fnum_is h]
    exact kOf_yes h w

-- END
end Go.Proofs.YtpahpnajeliodaaGreatDoor
/- The reader's small calls: repeats, control, edge, back, letter. -/
namespace Go.Proofs.YtpahpnajeliodaaGreatDoor
open Go.ChangeShapes Go.WideShapes Go.ChangeAt Go.RowKit
set_option linter.unusedVariables false
set_option linter.unusedSimpArgs false

/-- The reader, whatever its nodes' kids lie in. -/
def Rr (B rb : Nat) (s last : ByteArray) (r : RS) (vn : Qv) (w : World) : Prop := ∃ ns, Rd B rb s last r vn ns w
/-- From w to w' the reader has become 'r''. -/
def Okk (B rb : Nat) (s last : ByteArray) (vn : Qv) (w : World) (r' : RS) (w' : World) : Prop := ∃ vn', Rr B rb s last r' vn' w' ∧ Adv rb vn w vn' w'
/-- What a call that fails leaves: nothing has turned but the reader's own. -/
def Er (rb : Nat) (vn : Qv) (w w' : World) : Prop := Fr (Rb rb vn) w w'
/-- What a call that answers a node's number comes to. -/
def RetI (B rb : Nat) (s last : ByteArray) (vn : Qv) (w : World) (R : Except (Nat × Nat) (Nat × RS)) (e : Ending) (w' : World) : Prop :=
  match R with
  | .ok (i, r') => e = .returned (.int .i64 i) ∧ Okk B rb s last vn w r' w'
  | .error (n, p) => e = Wrong n p ∧ Er rb vn w w'
def addN (d : Nd) (r : RS) : Nat × RS := (r.nds.length, { r with nds := r.nds ++ [d] })
def repB (op : Nat) : Bool := op == 2 || op == 3 || op == 4 || op == 5 || op == 8 || op == 9 || op == 1
def ctlC (c : Nat) : Nat := if c = 101 then 27 else if c = 116 then 9 else if c = 114 then 13 else if c = 98 then 8 else c
def edgeF (s : ByteArray) (t : Tok) (r : RS) : Except (Nat × Nat) (Nat × RS) :=
  if pfx s r.k ⟨#[115]⟩ then .ok (addN { op := 14 } { r with k := r.k + 1 }) else if pfx s r.k ⟨#[101]⟩ then .ok (addN { op := 15 } { r with k := r.k + 1 }) else .error (30, t.pl)
def backF (t : Tok) (r : RS) : Except (Nat × Nat) (Nat × RS) :=
  if r.cl.getD (t.c - 48) false then .ok (addN { op := 9, n := t.c - 48 } r) else .error (31, t.pl)
def letterF (s : ByteArray) (t : Tok) (r : RS) : Except (Nat × Nat) (Nat × RS) :=
  if t.c = 101 ∨ t.c = 116 ∨ t.c = 114 ∨ t.c = 98 then .ok (addN { op := 2, c := ctlC t.c } r)
  else if t.c = 110 then .ok (addN { op := 4 } r)
  else if t.c = 122 then edgeF s t r
  else if 49 ≤ t.c ∧ t.c ≤ 57 then backF t r
  else if knB (smI t.c) then .ok (addN { op := 4, set := foldS (isB t.c) 256 } r)
  else .error (30, t.pl)
section
variable {B rb : Nat} {s last : ByteArray} {r : RS} {vn : Qv} {w w1 w2 : World}
theorem Rr.kp (h : Rr B rb s last r vn w) (k : Kp w w1) : Rr B rb s last r vn w1 := by obtain ⟨ns, h⟩ := h; exact ⟨ns, h.kp k⟩
theorem Rr.hB (h : Rr B rb s last r vn w) : B ≤ w.heap.size := by obtain ⟨ns, h⟩ := h; have := h.lt; have := h.ge; omega
theorem Rr.lt (h : Rr B rb s last r vn w) : rb < w.heap.size := by obtain ⟨ns, h⟩ := h; exact h.lt
theorem Rr.scn (h : Rr B rb s last r vn w) : Scn 50 (vn.v :: .string last :: .int .i64 r.g :: r.cl.map Value.bool) s r.k r.md r.cs rb w := by obtain ⟨ns, h⟩ := h; exact h.scn
theorem Rr.below (h : Rr B rb s last r vn w) {vn' : Qv} (a : Adv rb vn w vn' w1) : Below B w w1 := by
  have hB := h.hB
  obtain ⟨ns, h⟩ := h
  exact AdvX.below a hB h.ge fun j hj => (h.own j hj).1
theorem Rr.er (h : Rr B rb s last r vn w) {vn' : Qv} (a : Adv rb vn w vn' w1) : Er rb vn w w1 := a.fr
theorem Rr.ert (h : Rr B rb s last r vn w) {vn' : Qv} (a : Adv rb vn w vn' w1) (q : Er rb vn' w1 w2) : Er rb vn w w2 := by
  refine Fr.trans' a.fr q fun k hk hq => ?_
  rcases hq with hq | hq
  · exact .inl hq
  · rcases a.own with e | e
    · exact .inr (by rw [← e]; exact hq)
    · exact absurd (e k hq) (by omega)
theorem Rr.scan (h : Rr B rb s last r vn w) (k : Fr (On rb) w w1) {k' : Nat} {md' : ByteArray} {cs' : Nat} (hs : Scn 50 (vn.v :: .string last :: .int .i64 r.g :: r.cl.map Value.bool) s k' md' cs' rb w1) : Rr B rb s last { r with k := k', md := md', cs := cs' } vn w1 := by
  obtain ⟨ns, h⟩ := h; exact ⟨ns, h.scan k hs⟩
theorem Okk.refl (h : Rr B rb s last r vn w) : Okk B rb s last vn w r w := ⟨vn, h, Adv.refl _ _ _⟩
theorem Okk.ahead {r' : RS} (a : Adv rb vn w vn w1) (h : Okk B rb s last vn w1 r' w2) : Okk B rb s last vn w r' w2 := by
  obtain ⟨vn', h1, h2⟩ := h; exact ⟨vn', h1, AdvX.trans a h2⟩
theorem Added.okk {ns : List (Nd × Value)} {d : Nd} {e : Ending} (h : Added B rb s last r vn ns w d (.slice none 0 0) e w1) : e = .returned (.int .i64 r.nds.length) ∧ Okk B rb s last vn w { r with nds := r.nds ++ [d] } w1 := by
  obtain ⟨h1, vn', h2, h3⟩ := h; exact ⟨h1, vn', ⟨_, h2⟩, h3⟩
/-- The builder's calls, in these words. -/
theorem rplain (h : Rr B rb s last r vn w) (c : Nat) (hl : r.nds.length < 100000) : Calls Tryz.prog 57 #[.pointer (some ⟨rb, 4, none⟩), .int .u8 c] w fun e w' => e = .returned (.int .i64 r.nds.length) ∧ Okk B rb s last vn w { r with nds := r.nds ++ [{ op := 2, c := c }] } w' := by
  have hB := h.hB
  obtain ⟨ns, h⟩ := h
  exact (bplain_any h c hl hB).mono fun e w' q => q.okk
theorem rbare (h : Rr B rb s last r vn w) (op : Nat) (hl : r.nds.length < 100000) : Calls Tryz.prog 44 #[.pointer (some ⟨rb, 4, none⟩), .int .u8 op] w fun e w' => e = .returned (.int .i64 r.nds.length) ∧ Okk B rb s last vn w { r with nds := r.nds ++ [{ op := op }] } w' := by
  have hB := h.hB
  obtain ⟨ns, h⟩ := h
  exact (bare_any h op hl hB).mono fun e w' q => q.okk
theorem rset (h : Rr B rb s last r vn w) (q : S4) (hl : r.nds.length < 100000) : Calls Tryz.prog 78 #[.pointer (some ⟨rb, 4, none⟩), .agg #[.int .u64 q.a, .int .u64 q.b, .int .u64 q.c, .int .u64 q.d]] w fun e w' => e = .returned (.int .i64 r.nds.length) ∧ Okk B rb s last vn w { r with nds := r.nds ++ [{ op := 4, set := q }] } w' := by
  have hB := h.hB
  obtain ⟨ns, h⟩ := h
  exact (set_any h q hl hB).mono fun e w' q => q.okk
theorem repeats_any (op : Nat) (w : World) : Calls Tryz.prog 46 #[.int .u8 op] w fun e w' => e = .returned (.bool (repB op)) ∧ w' = w := by
  have e : repB op = ((op : Int) == 2 || (op : Int) == 3 || (op : Int) == 4 || (op : Int) == 5 || (op : Int) == 8 || (op : Int) == 9 || (op : Int) == 1) := by
    have : ∀ n : Nat, (op == n) = ((op : Int) == (n : Int)) := fun n => by
      by_cases e : op = n
      · subst e; simp
      · rw [beq_eq_false_iff_ne.2 e, beq_eq_false_iff_ne.2 (by omega)]
    simp only [repB, this]; rfl
  rw [e]
  go_enter Tryz.func46, Tryz.ntmps46
  cases h2 : ((op : Int) == 2)
  · cases h3 : ((op : Int) == 3)
    · cases h4 : ((op : Int) == 4)
      · cases h5 : ((op : Int) == 5)
        · cases h8 : ((op : Int) == 8)
          · cases h9 : ((op : Int) == 9)
            · cases h1 : ((op : Int) == 1)
              all_goals
                go_wp2
                go_ret
                exact ⟨rfl, rfl⟩
            · go_wp2
              go_ret
              exact ⟨rfl, rfl⟩
          · go_wp2
            go_ret
            exact ⟨rfl, rfl⟩
        · go_wp2
          go_ret
          exact ⟨rfl, rfl⟩
      · go_wp2
        go_ret
        exact ⟨rfl, rfl⟩
    · go_wp2
      go_ret
      exact ⟨rfl, rfl⟩
  · go_wp2
    go_ret
    exact ⟨rfl, rfl⟩
theorem control_any (c : Nat) (w : World) : Calls Tryz.prog 80 #[.int .u8 c] w fun e w' => e = .returned (.int .u8 (ctlC c)) ∧ w' = w := by
  unfold ctlC
  by_cases h1 : c = 101
  · subst h1
    go_enter Tryz.func80, Tryz.ntmps80
    go_wp2
    go_ret
    exact ⟨rfl, rfl⟩
  by_cases h2 : c = 116
  · subst h2
    go_enter Tryz.func80, Tryz.ntmps80
    go_wp2
    go_ret
    exact ⟨rfl, rfl⟩
  by_cases h3 : c = 114
  · subst h3
    go_enter Tryz.func80, Tryz.ntmps80
    go_wp2
    go_ret
    exact ⟨rfl, rfl⟩
  by_cases h4 : c = 98
  · subst h4
    go_enter Tryz.func80, Tryz.ntmps80
    go_wp2
    go_ret
    exact ⟨rfl, rfl⟩
  rw [if_neg h1, if_neg h2, if_neg h3, if_neg h4]
  have e1 : ((c : Int) == 101) = false := by simp; omega
  have e2 : ((c : Int) == 116) = false := by simp; omega
  have e3 : ((c : Int) == 114) = false := by simp; omega
  have e4 : ((c : Int) == 98) = false := by simp; omega
  clear h1 h2 h3 h4
  go_enter Tryz.func80, Tryz.ntmps80
  go_wp2
  go_ret
  exact ⟨rfl, rfl⟩
/-- A text is passed over, if it comes. -/
theorem rskip (h : Rr B rb s last r vn w) (hs : s.size ≤ 400) (ha : r.k ≤ s.size) (t : ByteArray) (ht : t.size ≤ 400) {y : Bool} (hy : pfx s r.k t = y) :
    Calls Tryz.prog 92 #[.pointer (some ⟨rb, 0, none⟩), .string t] w fun e w' => e = .returned (.bool y) ∧ Rr B rb s last { r with k := if y then r.k + t.size else r.k } vn w' ∧ Fr (On rb) w w' := by
  refine (skip_any h.scn hs ha t ht y hy).mono ?_
  rintro e w' ⟨rfl, q1, q2⟩
  exact ⟨rfl, h.scan q1 q2, q1⟩
theorem edge_any (h : Rr B rb s last r vn w) (hs : s.size ≤ 400) (ha : r.k ≤ s.size) (hl : r.nds.length < 100000) (t : Tok) :
    Calls Tryz.prog 81 #[.pointer (some ⟨rb, 0, none⟩), t.val] w (RetI B rb s last vn w (edgeF s t r)) := by
  obtain ⟨kd, c, pl⟩ := t
  unfold Tok.val edgeF
  simp only
  have HB : Hid (∀ w1, Kp (w.alloc (.cells #[.int .u8 kd, .int .u8 c, .int .i64 pl] 75)) w1 ∨ Fr (On rb) (w.alloc (.cells #[.int .u8 kd, .int .u8 c, .int .i64 pl] 75)) w1 → TokBox w.heap.size ⟨kd, c, pl⟩ w1) := fun w1 k => by
    have hn : TokBox w.heap.size ⟨kd, c, pl⟩ (w.alloc (.cells #[.int .u8 kd, .int .u8 c, .int .i64 pl] 75)) := alloc_new w _
    rcases k with k | k
    · exact hn.kp k
    · exact hn.fr k (Nat.ne_of_gt h.lt)
  have HR : Hid (Rr B rb s last r vn w ∧ ∀ ob, Rr B rb s last r vn (w.alloc ob)) := ⟨h, fun ob => h.kp (kp_alloc w ob)⟩
  clear h
  cases h1 : pfx s r.k ⟨#[115]⟩ with
  | true =>
    go_enter Tryz.func81, Tryz.ntmps81
    go_wp2_with fail
    refine Calls.mono (rskip (HR.out.2 _) hs ha _ (by decide) h1) ?_
    rintro e w1 ⟨rfl, q1, q2⟩
    have H1 : Hid (Rr B rb s last { r with k := r.k + 1 } vn w1 ∧ Adv rb vn w vn w1) := ⟨q1, (Adv.kp vn rb (kp_alloc w _)).trans (Adv.on vn q2)⟩
    clear q1 q2
    go_wp2_with fail
    refine Calls.mono (rbare H1.out.1 14 hl) ?_
    rintro e w2 ⟨rfl, q⟩
    have H2 : Hid (Okk B rb s last vn w _ w2) := Okk.ahead H1.out.2 q
    clear q
    go_wp2_with fail
    go_ret
    exact ⟨rfl, H2.out⟩
  | false =>
    cases h2 : pfx s r.k ⟨#[101]⟩ with
    | true =>
      go_enter Tryz.func81, Tryz.ntmps81
      go_wp2_with fail
      refine Calls.mono (rskip (HR.out.2 _) hs ha _ (by decide) h1) ?_
      rintro e w1 ⟨rfl, q1, q2⟩
      have H1 : Hid (Rr B rb s last { r with k := r.k } vn w1 ∧ Adv rb vn w vn w1) := ⟨q1, (Adv.kp vn rb (kp_alloc w _)).trans (Adv.on vn q2)⟩
      clear q1 q2
      go_wp2_with fail
      refine Calls.mono (rskip H1.out.1 hs ha _ (by decide) h2) ?_
      rintro e w2 ⟨rfl, q1, q2⟩
      have H2 : Hid (Rr B rb s last { r with k := r.k + 1 } vn w2 ∧ Adv rb vn w vn w2) := ⟨q1, H1.out.2.trans (Adv.on vn q2)⟩
      clear q1 q2
      go_wp2_with fail
      refine Calls.mono (rbare H2.out.1 15 hl) ?_
      rintro e w3 ⟨rfl, q⟩
      have H3 : Hid (Okk B rb s last vn w _ w3) := Okk.ahead H2.out.2 q
      clear q
      go_wp2_with fail
      go_ret
      exact ⟨rfl, H3.out⟩
    | false =>
      go_enter Tryz.func81, Tryz.ntmps81
      go_wp2_with fail
      refine Calls.mono (rskip (HR.out.2 _) hs ha _ (by decide) h1) ?_
      rintro e w1 ⟨rfl, q1, q2⟩
      have H1 : Hid (Rr B rb s last { r with k := r.k } vn w1 ∧ Adv rb vn w vn w1 ∧ Fr (On rb) _ w1) := ⟨q1, (Adv.kp vn rb (kp_alloc w _)).trans (Adv.on vn q2), q2⟩
      clear q1 q2
      go_wp2_with fail
      refine Calls.mono (rskip H1.out.1 hs ha _ (by decide) h2) ?_
      rintro e w2 ⟨rfl, q1, q2⟩
      have H2 : Hid (Adv rb vn w vn w2) := H1.out.2.1.trans (Adv.on vn q2)
      obtain ⟨⟨r0, r1, r2⟩, _⟩ := (HB.out w2 (.inr (H1.out.2.2.trans q2))).cells
      clear q1 q2
      go_wp2_with fail
      exact ⟨rfl, rfl, HR.out.1.er H2.out⟩
end
end Go.Proofs.YtpahpnajeliodaaGreatDoor
/- Steps of a region that draws its order, walked by hand. -/
namespace Go.Proofs.YtpahpnajeliodaaGreatDoor
open Go.ChangeShapes Go.WideShapes Go.ChangeAt Go.RowKit
set_option linter.unusedVariables false
set_option linter.unusedSimpArgs false
theorem takeAt {P : Program} {ops : Array Oper} {Q : Exit → Act → World → Prop} {md : Region.Mode} {S : World → Prop} (i : Nat) (dst : Option Tmp) (v : Value) {oi : Oper} {fuel : Nat} {listed : Array Bool} {a : Act} {w : World} (hi : ops[i]? = some oi) (hd : oi.dst = dst)
    (hs : Region.noSelect ops = true) (hf : Region.free md ops listed i = true) (hr : (Region.ready md ops listed).contains i = true)
    (hQ : ∀ c a w, Q (.panic c) (a.put dst v) w → Q (.panic c) a w) (hy : YieldsIf P ops S oi v a) (hS : S w)
    (h : wpAnyH P md ops Q S fuel (listed.setIfInBounds i true) (a.put dst v) w) : wpAnyH P md ops Q S (fuel + 1) listed a w := by
  subst hd
  exact wpAnyH_take hi hs hf hr hQ hy hS h
theorem run_callGo {P : Program} {f : FuncId} {fn : Func} (args : Array Value) (w : World) (hf : P.funcs[f]? = some fn) (hn : (fn.name == "runtime.NumGoroutine") = false) (hb : fn.body.isNone = false) : (callFunc f args).run P w = .ok (.enter f args) w := by
  have h1 : ¬ fn.name = "runtime.NumGoroutine" := by simpa using hn
  have h2 : ¬ fn.body = none := by intro e; rw [e] at hb; cases hb
  simp [callFunc, hf, h1, h2]
/-- The call of a Go function comes up alone. -/
theorem callAt {P : Program} {ops : Array Oper} {Q : Exit → Act → World → Prop} {md : Region.Mode} {S : World → Prop} (i : Nat) (d : Tmp) (f : FuncId) {o : Oper} {fn : Func} {fuel : Nat} {listed : Array Bool} {a : Act} {w : World} {xs : Array Operand} {ats : Array TypeId} {vals : Array Value}
    (hr : Region.ready md ops listed = [i]) (ho : ops[i]? = some o) (hop : o.op = .call { callee := .value (.func f), args := xs, argTypes := ats }) (hd : o.dst = some d) (hg : o.guard = none) (hv : xs.map a.eval = vals)
    (hf : P.funcs[f]? = some fn) (hn : (fn.name == "runtime.NumGoroutine") = false) (hb : fn.body.isNone = false)
    (h : Calls P f vals w fun e w' => ∃ v, e = .returned v ∧ S w' ∧ (S w' → wpAnyH P md ops Q S fuel (listed.setIfInBounds i true) (a.put (some d) v) w')) : wpAnyH P md ops Q S (fuel + 1) listed a w := by
  refine wpAnyH_ready hr (by simp) ?_
  refine AllReadyH.cons ho (fun K hK => ?_) AllReadyH.nil
  have hw : Region.wanted o (yielded ops a.tmps) = true := by simp [Region.wanted, hg]
  rw [if_pos hw]
  obtain ⟨dst, op, type, pos, after, guard⟩ := o
  simp only at hop hd hg
  subst hop; subst hd; subst hg
  unfold Oper.wp
  rw [execOp_call_go, show (#[] ++ xs.map a.eval ++ #[]) = vals by simp [hv], run_callGo vals w hf hn hb]
  simp only [Oper.upon]
  refine Calls.mono h ?_
  rintro e w' ⟨v, rfl, hS, hW⟩
  exact hK.out _ _ hS hW
theorem callAtG {P : Program} {ops : Array Oper} {Q : Exit → Act → World → Prop} {md : Region.Mode} {S : World → Prop} (i : Nat) (d : Tmp) (f : FuncId) {o : Oper} {fn : Func} {fuel : Nat} {listed : Array Bool} {a : Act} {w : World} {xs : Array Operand} {ats : Array TypeId} {vals : Array Value}
    (hr : Region.ready md ops listed = [i]) (ho : ops[i]? = some o) (hop : o.op = .call { callee := .value (.func f), args := xs, argTypes := ats }) (hd : o.dst = some d) (hw : Region.wanted o (yielded ops a.tmps) = true) (hv : xs.map a.eval = vals)
    (hf : P.funcs[f]? = some fn) (hn : (fn.name == "runtime.NumGoroutine") = false) (hb : fn.body.isNone = false)
    (h : Calls P f vals w fun e w' => ∃ v, e = .returned v ∧ S w' ∧ (S w' → wpAnyH P md ops Q S fuel (listed.setIfInBounds i true) (a.put (some d) v) w')) : wpAnyH P md ops Q S (fuel + 1) listed a w := by
  refine wpAnyH_ready hr (by simp) ?_
  refine AllReadyH.cons ho (fun K hK => ?_) AllReadyH.nil
  rw [if_pos hw]
  obtain ⟨dst, op, type, pos, after, guard⟩ := o
  simp only at hop hd
  subst hop; subst hd
  unfold Oper.wp
  rw [execOp_call_go, show (#[] ++ xs.map a.eval ++ #[]) = vals by simp [hv], run_callGo vals w hf hn hb]
  simp only [Oper.upon]
  refine Calls.mono h ?_
  rintro e w' ⟨v, rfl, hS, hW⟩
  exact hK.out _ _ hS hW
end Go.Proofs.YtpahpnajeliodaaGreatDoor
/- The reader's calls back and letter. -/
namespace Go.Proofs.YtpahpnajeliodaaGreatDoor
open Go.ChangeShapes Go.WideShapes Go.ChangeAt Go.RowKit
set_option linter.unusedVariables false
set_option linter.unusedSimpArgs false
theorem TokBox.adv {n rb : Nat} {t : Tok} {w w' : World} {vn vn' : Qv} (h : TokBox n t w) (a : Adv rb vn w vn' w') (hn : n ≠ rb) (hv : vn.ownBlock ≠ some n) : TokBox n t w' := by
  unfold TokBox at *
  rw [a.fr.block n (Array.getElem?_eq_some_iff.1 h).1 fun q => ?_]; exact h
  rcases q with q | q
  · exact hn q
  · exact hv q
/-- A set in a block of its own. -/
def SetBox (n : Nat) (q : S4) (w : World) : Prop := w.heap[n]? = some (.cells #[.int .u64 q.a, .int .u64 q.b, .int .u64 q.c, .int .u64 q.d] 70 (0, 0))
theorem SetBox.cells {n : Nat} {q : S4} {w : World} (h : SetBox n q w) : w.cell? ⟨n, 0, none⟩ = some (.int .u64 q.a) ∧ w.cell? ⟨n, 1, none⟩ = some (.int .u64 q.b) ∧ w.cell? ⟨n, 2, none⟩ = some (.int .u64 q.c) ∧ w.cell? ⟨n, 3, none⟩ = some (.int .u64 q.d) := by
  unfold SetBox at h
  exact ⟨by simp [World.cell?, h], by simp [World.cell?, h], by simp [World.cell?, h], by simp [World.cell?, h]⟩
theorem SetBox.adv {n rb : Nat} {q : S4} {w w' : World} {vn vn' : Qv} (h : SetBox n q w) (a : Adv rb vn w vn' w') (hn : n ≠ rb) (hv : vn.ownBlock ≠ some n) : SetBox n q w' := by
  unfold SetBox at *
  rw [a.fr.block n (Array.getElem?_eq_some_iff.1 h).1 fun z => ?_]; exact h
  rcases z with z | z
  · exact hn z
  · exact hv z
section
variable {B rb : Nat} {s last : ByteArray} {r : RS} {vn : Qv} {w : World}
theorem Rr.closed (h : Rr B rb s last r vn w) (hc : r.cl.length = 10) {n : Nat} (hn : n < 10) : w.cell? ⟨rb, 7 + n, none⟩ = some (.bool (r.cl.getD n false)) := by
  have := h.scn
  unfold Scn at this
  have e : (r.cl.map Value.bool)[n]? = some (.bool (r.cl.getD n false)) := by simp [List.getD, List.getElem?_eq_getElem (show n < r.cl.length by omega)]
  simp only [World.cell?, this]
  rw [show 7 + n = n + 1 + 1 + 1 + 1 + 1 + 1 + 1 by omega]
  simp only [List.getElem?_toArray, List.getElem?_cons_succ]
  rw [e]
  rfl
theorem Rr.own (h : Rr B rb s last r vn w) {n : Nat} (hn : w.heap.size ≤ n) : vn.ownBlock ≠ some n := fun e => by
  obtain ⟨ns, h⟩ := h
  have := (h.own n e).2; omega
theorem back_any (h : Rr B rb s last r vn w) (hl : r.nds.length < 100000) (hc : r.cl.length = 10) (t : Tok) (ht : 49 ≤ t.c ∧ t.c ≤ 57) :
    Calls Tryz.prog 82 #[.pointer (some ⟨rb, 0, none⟩), t.val] w (RetI B rb s last vn w (backF t r)) := by
  obtain ⟨kd, c, pl⟩ := t
  unfold Tok.val backF
  simp only at ht ⊢
  obtain ⟨N, hN⟩ : ∃ N, c - 48 = N := ⟨_, rfl⟩
  have hcN : (c : Int) - 48 = (N : Int) := by omega
  have hcl := (h.kp (kp_alloc w (.cells #[.int .u8 kd, .int .u8 c, .int .i64 pl] 75))).closed hc (n := N) (by omega)
  have HR : Hid (Rr B rb s last r vn w ∧ ∀ ob, Rr B rb s last r vn (w.alloc ob)) := ⟨h, fun ob => h.kp (kp_alloc w ob)⟩
  rw [hN]
  have HA : Hid (∀ ob, Calls Tryz.prog 45 #[.pointer (some ⟨rb, 4, none⟩), .agg #[.int .u8 9, .int .u8 0, .int .u64 0, .int .u64 0, .int .u64 0, .int .u64 0, .int .i64 0, .int .i64 0, .bool false, .int .i64 N, .slice none 0 0]] (w.alloc ob) fun e w' => e = .returned (.int .i64 r.nds.length) ∧ Okk B rb s last vn (w.alloc ob) { r with nds := r.nds ++ [{ op := 9, n := N }] } w') := fun ob => by
    have hB := (HR.out.2 ob).hB
    obtain ⟨ns, h⟩ := HR.out.2 ob
    exact (add_any h { op := 9, n := N } (leaf_row B _) (off_nil _ _) hl hB).mono fun e w' q => Added.okk q
  have h9 : N ≤ 9 := by omega
  have h8 : c ≤ 57 := ht.2
  have h7 : 49 ≤ c := ht.1
  generalize r.cl.getD N false = y at *
  clear h hN ht hc
  cases y with
  | true =>
    go_enter Tryz.func82, Tryz.ntmps82
    go_wp2_with fail
    refine Calls.mono (HA.out _) ?_
    rintro e w1 ⟨rfl, q⟩
    have H2 : Hid (Okk B rb s last vn w _ w1) := Okk.ahead (Adv.kp vn rb (kp_alloc w _)) q
    clear q
    go_wp2_with fail
    go_ret
    exact ⟨rfl, H2.out⟩
  | false =>
    go_enter Tryz.func82, Tryz.ntmps82
    go_wp2_with fail
    exact ⟨rfl, rfl, HR.out.1.er (Adv.kp vn rb (kp_alloc w _))⟩
set_option maxHeartbeats 2000000 in
set_option maxRecDepth 100000 in
theorem letter_any (h : Rr B rb s last r vn w) (hs : s.size ≤ 400) (ha : r.k ≤ s.size) (hl : r.nds.length < 100000) (hc : r.cl.length = 10) (t : Tok) (ht : t.c < 256) :
    Calls Tryz.prog 60 #[.pointer (some ⟨rb, 0, none⟩), t.val] w (RetI B rb s last vn w (letterF s t r)) := by
  obtain ⟨kd, c, pl⟩ := t
  unfold Tok.val letterF
  simp only
  have HR : Hid (Rr B rb s last r vn w ∧ ∀ ob, Rr B rb s last r vn (w.alloc ob)) := ⟨h, fun ob => h.kp (kp_alloc w ob)⟩
  have hne : w.heap.size ≠ rb := Nat.ne_of_gt h.lt
  have HV : Hid (vn.ownBlock ≠ some w.heap.size) := h.own (Nat.le_refl _)
  have HB : Hid (TokBox w.heap.size ⟨kd, c, pl⟩ (w.alloc (.cells #[.int .u8 kd, .int .u8 c, .int .i64 pl] 75)) ∧ TokBox w.heap.size ⟨kd, c, pl⟩ (w.alloc (.cells #[.int .u8 kd, .int .u8 c, .int .i64 pl] 75)).drew) := ⟨alloc_new w _, alloc_new w _⟩
  have rule1 : ∀ w', TokBox w.heap.size ⟨kd, c, pl⟩ w' → w'.cell? ⟨w.heap.size, 1, none⟩ = some (.int .u8 c) := fun _ h => h.cells.1.2.1
  by_cases h101 : c = 101
  · rw [if_pos (by omega)]
    have e101 : ((c : Int) == 101) = true := by simp; omega
    clear h101 h
    go_enter Tryz.func60, Tryz.ntmps60
    go_wp2_with fail
    refine wp_region_noPanic ?_
    refine wp_region_held_drew (S := TokBox w.heap.size ⟨kd, c, pl⟩) (by kernel_rfl) (HB.out.2) (fun hHeld => ?_)
    refine takeAt 0 (some 14) ?_ rfl rfl (by kernel_rfl) (by kernel_rfl) (by kernel_rfl) (fun _ _ _ h => h) (Or.inl ⟨by rfl, ?_⟩) hHeld ?_
    rotate_left
    · intro w hSw
      go_simp <;> with_reducible rfl
    try simp only [Act.put, List.setIfInBounds_toArray, List.set_cons_zero, List.set_cons_succ]
    refine takeAt 1 (some 15) ?_ rfl rfl (by kernel_rfl) (by kernel_rfl) (by kernel_rfl) (fun _ _ _ h => h) (Or.inl ⟨by rfl, ?_⟩) hHeld ?_
    rotate_left
    · intro w hSw
      go_simp <;> with_reducible rfl
    try simp only [Act.put, List.setIfInBounds_toArray, List.set_cons_zero, List.set_cons_succ]
    refine takeAt 2 (some 16) ?_ rfl rfl (by kernel_rfl) (by kernel_rfl) (by kernel_rfl) (fun _ _ _ h => h) (Or.inl ⟨by rfl, ?_⟩) hHeld ?_
    rotate_left
    · intro w hSw
      go_simp <;> with_reducible rfl
    try simp only [Act.put, List.setIfInBounds_toArray, List.set_cons_zero, List.set_cons_succ]
    refine takeAt 3 (some 17) ?_ rfl rfl (by kernel_rfl) (by kernel_rfl) (by kernel_rfl) (fun _ _ _ h => h) (Or.inl ⟨by rfl, ?_⟩) hHeld ?_
    rotate_left
    · intro w hSw
      go_simp <;> with_reducible rfl
    try simp only [Act.put, List.setIfInBounds_toArray, List.set_cons_zero, List.set_cons_succ]
    refine takeAt 4 (some 18) ?_ rfl rfl (by kernel_rfl) (by kernel_rfl) (by kernel_rfl) (fun _ _ _ h => h) (Or.inl ⟨by rfl, ?_⟩) hHeld ?_
    rotate_left
    · intro w hSw
      go_simp <;> with_reducible rfl
    try simp only [Act.put, List.setIfInBounds_toArray, List.set_cons_zero, List.set_cons_succ]
    refine callAt 5 19 80 (vals := #[.int .u8 c]) (by kernel_rfl) rfl rfl rfl rfl (by simp [Act.eval]) Tryz.func80 (by kernel_rfl) (by kernel_rfl) ?_
    refine Calls.mono (control_any c _) ?_
    rintro e _ ⟨rfl, rfl⟩
    refine ⟨_, rfl, HB.out.2, fun hHeld => ?_⟩
    try simp only [Act.put, List.setIfInBounds_toArray, List.set_cons_zero, List.set_cons_succ]
    refine callAt 6 20 57 (vals := #[.pointer (some ⟨rb, 4, none⟩), .int .u8 (ctlC c)]) (by kernel_rfl) rfl rfl rfl rfl (by simp [Act.eval]) Tryz.func57 (by kernel_rfl) (by kernel_rfl) ?_
    refine Calls.mono (rplain ((HR.out.2 _).kp (kp_drew _)) (ctlC c) hl) ?_
    rintro e w2 ⟨rfl, q⟩
    have H2 : Hid (Okk B rb s last vn w _ w2 ∧ TokBox w.heap.size ⟨kd, c, pl⟩ w2) := ⟨Okk.ahead (Adv.kp vn rb (kp_trans (kp_alloc w _) (kp_drew _))) q, by obtain ⟨vn', _, a⟩ := q; exact HB.out.2.adv a hne HV.out⟩
    clear q
    refine ⟨_, rfl, H2.out.2, fun hHeld => ?_⟩
    try simp only [Act.put, List.setIfInBounds_toArray, List.set_cons_zero, List.set_cons_succ]
    refine takeAt 7 (some 4) ?_ rfl rfl (by kernel_rfl) (by kernel_rfl) (by kernel_rfl) (fun _ _ _ h => h) (Or.inl ⟨by rfl, ?_⟩) hHeld ?_
    rotate_left
    · intro w hSw
      go_simp <;> with_reducible rfl
    try simp only [Act.put, List.setIfInBounds_toArray, List.set_cons_zero, List.set_cons_succ]
    refine wpAnyH_done (by kernel_rfl) ?_ _
    refine NoPanic.normal ?_
    go_wp2_with fail
    go_ret
    exact ⟨rfl, H2.out.1⟩
  by_cases h116 : c = 116
  · rw [if_pos (by omega)]
    have e116 : ((c : Int) == 116) = true := by simp; omega
    have e101 : ((c : Int) == 101) = false := by simp; omega
    clear h116 h
    go_enter Tryz.func60, Tryz.ntmps60
    go_wp2_with fail
    refine wp_region_noPanic ?_
    refine wp_region_held_drew (S := TokBox w.heap.size ⟨kd, c, pl⟩) (by kernel_rfl) (HB.out.2) (fun hHeld => ?_)
    refine takeAt 0 (some 14) ?_ rfl rfl (by kernel_rfl) (by kernel_rfl) (by kernel_rfl) (fun _ _ _ h => h) (Or.inl ⟨by rfl, ?_⟩) hHeld ?_
    rotate_left
    · intro w hSw
      go_simp <;> with_reducible rfl
    try simp only [Act.put, List.setIfInBounds_toArray, List.set_cons_zero, List.set_cons_succ]
    refine takeAt 1 (some 15) ?_ rfl rfl (by kernel_rfl) (by kernel_rfl) (by kernel_rfl) (fun _ _ _ h => h) (Or.inl ⟨by rfl, ?_⟩) hHeld ?_
    rotate_left
    · intro w hSw
      go_simp <;> with_reducible rfl
    try simp only [Act.put, List.setIfInBounds_toArray, List.set_cons_zero, List.set_cons_succ]
    refine takeAt 2 (some 16) ?_ rfl rfl (by kernel_rfl) (by kernel_rfl) (by kernel_rfl) (fun _ _ _ h => h) (Or.inl ⟨by rfl, ?_⟩) hHeld ?_
    rotate_left
    · intro w hSw
      go_simp <;> with_reducible rfl
    try simp only [Act.put, List.setIfInBounds_toArray, List.set_cons_zero, List.set_cons_succ]
    refine takeAt 3 (some 17) ?_ rfl rfl (by kernel_rfl) (by kernel_rfl) (by kernel_rfl) (fun _ _ _ h => h) (Or.inl ⟨by rfl, ?_⟩) hHeld ?_
    rotate_left
    · intro w hSw
      go_simp <;> with_reducible rfl
    try simp only [Act.put, List.setIfInBounds_toArray, List.set_cons_zero, List.set_cons_succ]
    refine takeAt 4 (some 18) ?_ rfl rfl (by kernel_rfl) (by kernel_rfl) (by kernel_rfl) (fun _ _ _ h => h) (Or.inl ⟨by rfl, ?_⟩) hHeld ?_
    rotate_left
    · intro w hSw
      go_simp <;> with_reducible rfl
    try simp only [Act.put, List.setIfInBounds_toArray, List.set_cons_zero, List.set_cons_succ]
    refine callAt 5 19 80 (vals := #[.int .u8 c]) (by kernel_rfl) rfl rfl rfl rfl (by simp [Act.eval]) Tryz.func80 (by kernel_rfl) (by kernel_rfl) ?_
    refine Calls.mono (control_any c _) ?_
    rintro e _ ⟨rfl, rfl⟩
    refine ⟨_, rfl, HB.out.2, fun hHeld => ?_⟩
    try simp only [Act.put, List.setIfInBounds_toArray, List.set_cons_zero, List.set_cons_succ]
    refine callAt 6 20 57 (vals := #[.pointer (some ⟨rb, 4, none⟩), .int .u8 (ctlC c)]) (by kernel_rfl) rfl rfl rfl rfl (by simp [Act.eval]) Tryz.func57 (by kernel_rfl) (by kernel_rfl) ?_
    refine Calls.mono (rplain ((HR.out.2 _).kp (kp_drew _)) (ctlC c) hl) ?_
    rintro e w2 ⟨rfl, q⟩
    have H2 : Hid (Okk B rb s last vn w _ w2 ∧ TokBox w.heap.size ⟨kd, c, pl⟩ w2) := ⟨Okk.ahead (Adv.kp vn rb (kp_trans (kp_alloc w _) (kp_drew _))) q, by obtain ⟨vn', _, a⟩ := q; exact HB.out.2.adv a hne HV.out⟩
    clear q
    refine ⟨_, rfl, H2.out.2, fun hHeld => ?_⟩
    try simp only [Act.put, List.setIfInBounds_toArray, List.set_cons_zero, List.set_cons_succ]
    refine takeAt 7 (some 4) ?_ rfl rfl (by kernel_rfl) (by kernel_rfl) (by kernel_rfl) (fun _ _ _ h => h) (Or.inl ⟨by rfl, ?_⟩) hHeld ?_
    rotate_left
    · intro w hSw
      go_simp <;> with_reducible rfl
    try simp only [Act.put, List.setIfInBounds_toArray, List.set_cons_zero, List.set_cons_succ]
    refine wpAnyH_done (by kernel_rfl) ?_ _
    refine NoPanic.normal ?_
    go_wp2_with fail
    go_ret
    exact ⟨rfl, H2.out.1⟩
  by_cases h114 : c = 114
  · rw [if_pos (by omega)]
    have e114 : ((c : Int) == 114) = true := by simp; omega
    have e101 : ((c : Int) == 101) = false := by simp; omega
    have e116 : ((c : Int) == 116) = false := by simp; omega
    clear h114 h
    go_enter Tryz.func60, Tryz.ntmps60
    go_wp2_with fail
    refine wp_region_noPanic ?_
    refine wp_region_held_drew (S := TokBox w.heap.size ⟨kd, c, pl⟩) (by kernel_rfl) (HB.out.2) (fun hHeld => ?_)
    refine takeAt 0 (some 14) ?_ rfl rfl (by kernel_rfl) (by kernel_rfl) (by kernel_rfl) (fun _ _ _ h => h) (Or.inl ⟨by rfl, ?_⟩) hHeld ?_
    rotate_left
    · intro w hSw
      go_simp <;> with_reducible rfl
    try simp only [Act.put, List.setIfInBounds_toArray, List.set_cons_zero, List.set_cons_succ]
    refine takeAt 1 (some 15) ?_ rfl rfl (by kernel_rfl) (by kernel_rfl) (by kernel_rfl) (fun _ _ _ h => h) (Or.inl ⟨by rfl, ?_⟩) hHeld ?_
    rotate_left
    · intro w hSw
      go_simp <;> with_reducible rfl
    try simp only [Act.put, List.setIfInBounds_toArray, List.set_cons_zero, List.set_cons_succ]
    refine takeAt 2 (some 16) ?_ rfl rfl (by kernel_rfl) (by kernel_rfl) (by kernel_rfl) (fun _ _ _ h => h) (Or.inl ⟨by rfl, ?_⟩) hHeld ?_
    rotate_left
    · intro w hSw
      go_simp <;> with_reducible rfl
    try simp only [Act.put, List.setIfInBounds_toArray, List.set_cons_zero, List.set_cons_succ]
    refine takeAt 3 (some 17) ?_ rfl rfl (by kernel_rfl) (by kernel_rfl) (by kernel_rfl) (fun _ _ _ h => h) (Or.inl ⟨by rfl, ?_⟩) hHeld ?_
    rotate_left
    · intro w hSw
      go_simp <;> with_reducible rfl
    try simp only [Act.put, List.setIfInBounds_toArray, List.set_cons_zero, List.set_cons_succ]
    refine takeAt 4 (some 18) ?_ rfl rfl (by kernel_rfl) (by kernel_rfl) (by kernel_rfl) (fun _ _ _ h => h) (Or.inl ⟨by rfl, ?_⟩) hHeld ?_
    rotate_left
    · intro w hSw
      go_simp <;> with_reducible rfl
    try simp only [Act.put, List.setIfInBounds_toArray, List.set_cons_zero, List.set_cons_succ]
    refine callAt 5 19 80 (vals := #[.int .u8 c]) (by kernel_rfl) rfl rfl rfl rfl (by simp [Act.eval]) Tryz.func80 (by kernel_rfl) (by kernel_rfl) ?_
    refine Calls.mono (control_any c _) ?_
    rintro e _ ⟨rfl, rfl⟩
    refine ⟨_, rfl, HB.out.2, fun hHeld => ?_⟩
    try simp only [Act.put, List.setIfInBounds_toArray, List.set_cons_zero, List.set_cons_succ]
    refine callAt 6 20 57 (vals := #[.pointer (some ⟨rb, 4, none⟩), .int .u8 (ctlC c)]) (by kernel_rfl) rfl rfl rfl rfl (by simp [Act.eval]) Tryz.func57 (by kernel_rfl) (by kernel_rfl) ?_
    refine Calls.mono (rplain ((HR.out.2 _).kp (kp_drew _)) (ctlC c) hl) ?_
    rintro e w2 ⟨rfl, q⟩
    have H2 : Hid (Okk B rb s last vn w _ w2 ∧ TokBox w.heap.size ⟨kd, c, pl⟩ w2) := ⟨Okk.ahead (Adv.kp vn rb (kp_trans (kp_alloc w _) (kp_drew _))) q, by obtain ⟨vn', _, a⟩ := q; exact HB.out.2.adv a hne HV.out⟩
    clear q
    refine ⟨_, rfl, H2.out.2, fun hHeld => ?_⟩
    try simp only [Act.put, List.setIfInBounds_toArray, List.set_cons_zero, List.set_cons_succ]
    refine takeAt 7 (some 4) ?_ rfl rfl (by kernel_rfl) (by kernel_rfl) (by kernel_rfl) (fun _ _ _ h => h) (Or.inl ⟨by rfl, ?_⟩) hHeld ?_
    rotate_left
    · intro w hSw
      go_simp <;> with_reducible rfl
    try simp only [Act.put, List.setIfInBounds_toArray, List.set_cons_zero, List.set_cons_succ]
    refine wpAnyH_done (by kernel_rfl) ?_ _
    refine NoPanic.normal ?_
    go_wp2_with fail
    go_ret
    exact ⟨rfl, H2.out.1⟩
  by_cases h98 : c = 98
  · rw [if_pos (by omega)]
    have e98 : ((c : Int) == 98) = true := by simp; omega
    have e101 : ((c : Int) == 101) = false := by simp; omega
    have e116 : ((c : Int) == 116) = false := by simp; omega
    have e114 : ((c : Int) == 114) = false := by simp; omega
    clear h98 h
    go_enter Tryz.func60, Tryz.ntmps60
    go_wp2_with fail
    refine wp_region_noPanic ?_
    refine wp_region_held_drew (S := TokBox w.heap.size ⟨kd, c, pl⟩) (by kernel_rfl) (HB.out.2) (fun hHeld => ?_)
    refine takeAt 0 (some 14) ?_ rfl rfl (by kernel_rfl) (by kernel_rfl) (by kernel_rfl) (fun _ _ _ h => h) (Or.inl ⟨by rfl, ?_⟩) hHeld ?_
    rotate_left
    · intro w hSw
      go_simp <;> with_reducible rfl
    try simp only [Act.put, List.setIfInBounds_toArray, List.set_cons_zero, List.set_cons_succ]
    refine takeAt 1 (some 15) ?_ rfl rfl (by kernel_rfl) (by kernel_rfl) (by kernel_rfl) (fun _ _ _ h => h) (Or.inl ⟨by rfl, ?_⟩) hHeld ?_
    rotate_left
    · intro w hSw
      go_simp <;> with_reducible rfl
    try simp only [Act.put, List.setIfInBounds_toArray, List.set_cons_zero, List.set_cons_succ]
    refine takeAt 2 (some 16) ?_ rfl rfl (by kernel_rfl) (by kernel_rfl) (by kernel_rfl) (fun _ _ _ h => h) (Or.inl ⟨by rfl, ?_⟩) hHeld ?_
    rotate_left
    · intro w hSw
      go_simp <;> with_reducible rfl
    try simp only [Act.put, List.setIfInBounds_toArray, List.set_cons_zero, List.set_cons_succ]
    refine takeAt 3 (some 17) ?_ rfl rfl (by kernel_rfl) (by kernel_rfl) (by kernel_rfl) (fun _ _ _ h => h) (Or.inl ⟨by rfl, ?_⟩) hHeld ?_
    rotate_left
    · intro w hSw
      go_simp <;> with_reducible rfl
    try simp only [Act.put, List.setIfInBounds_toArray, List.set_cons_zero, List.set_cons_succ]
    refine takeAt 4 (some 18) ?_ rfl rfl (by kernel_rfl) (by kernel_rfl) (by kernel_rfl) (fun _ _ _ h => h) (Or.inl ⟨by rfl, ?_⟩) hHeld ?_
    rotate_left
    · intro w hSw
      go_simp <;> with_reducible rfl
    try simp only [Act.put, List.setIfInBounds_toArray, List.set_cons_zero, List.set_cons_succ]
    refine callAt 5 19 80 (vals := #[.int .u8 c]) (by kernel_rfl) rfl rfl rfl rfl (by simp [Act.eval]) Tryz.func80 (by kernel_rfl) (by kernel_rfl) ?_
    refine Calls.mono (control_any c _) ?_
    rintro e _ ⟨rfl, rfl⟩
    refine ⟨_, rfl, HB.out.2, fun hHeld => ?_⟩
    try simp only [Act.put, List.setIfInBounds_toArray, List.set_cons_zero, List.set_cons_succ]
    refine callAt 6 20 57 (vals := #[.pointer (some ⟨rb, 4, none⟩), .int .u8 (ctlC c)]) (by kernel_rfl) rfl rfl rfl rfl (by simp [Act.eval]) Tryz.func57 (by kernel_rfl) (by kernel_rfl) ?_
    refine Calls.mono (rplain ((HR.out.2 _).kp (kp_drew _)) (ctlC c) hl) ?_
    rintro e w2 ⟨rfl, q⟩
    have H2 : Hid (Okk B rb s last vn w _ w2 ∧ TokBox w.heap.size ⟨kd, c, pl⟩ w2) := ⟨Okk.ahead (Adv.kp vn rb (kp_trans (kp_alloc w _) (kp_drew _))) q, by obtain ⟨vn', _, a⟩ := q; exact HB.out.2.adv a hne HV.out⟩
    clear q
    refine ⟨_, rfl, H2.out.2, fun hHeld => ?_⟩
    try simp only [Act.put, List.setIfInBounds_toArray, List.set_cons_zero, List.set_cons_succ]
    refine takeAt 7 (some 4) ?_ rfl rfl (by kernel_rfl) (by kernel_rfl) (by kernel_rfl) (fun _ _ _ h => h) (Or.inl ⟨by rfl, ?_⟩) hHeld ?_
    rotate_left
    · intro w hSw
      go_simp <;> with_reducible rfl
    try simp only [Act.put, List.setIfInBounds_toArray, List.set_cons_zero, List.set_cons_succ]
    refine wpAnyH_done (by kernel_rfl) ?_ _
    refine NoPanic.normal ?_
    go_wp2_with fail
    go_ret
    exact ⟨rfl, H2.out.1⟩
  rw [if_neg (by omega)]
  have e101 : ((c : Int) == 101) = false := by simp; omega
  have e116 : ((c : Int) == 116) = false := by simp; omega
  have e114 : ((c : Int) == 114) = false := by simp; omega
  have e98 : ((c : Int) == 98) = false := by simp; omega
  clear h101 h116 h114 h98
  have t1 := HB.out.1.cells.1.2.1
  have t2 := HB.out.1.cells.1.2.2
  have t0 := HB.out.1.cells.1.1
  simp only at t0 t1 t2
  by_cases h110 : c = 110
  · rw [if_pos h110]
    have e110 : ((c : Int) == 110) = true := by simp; omega
    clear h110 h
    have HS : Hid (∀ ob, Calls Tryz.prog 78 #[.pointer (some ⟨rb, 4, none⟩), .agg #[.int .u64 0, .int .u64 0, .int .u64 0, .int .u64 0]] (w.alloc ob) fun e w' => e = .returned (.int .i64 r.nds.length) ∧ Okk B rb s last vn (w.alloc ob) { r with nds := r.nds ++ [{ op := 4 }] } w') := fun ob => rset (HR.out.2 ob) zeroS hl
    go_enter Tryz.func60, Tryz.ntmps60
    go_wp2_with fail
    refine Calls.mono (HS.out _) ?_
    rintro e w1 ⟨rfl, q⟩
    have H2 : Hid (Okk B rb s last vn w _ w1) := Okk.ahead (Adv.kp vn rb (kp_alloc w _)) q
    clear q
    go_wp2_with fail
    go_ret
    exact ⟨rfl, H2.out⟩
  rw [if_neg h110]
  have e110 : ((c : Int) == 110) = false := by simp; omega
  clear h110
  by_cases h122 : c = 122
  · rw [if_pos h122]
    have e122 : ((c : Int) == 122) = true := by simp; omega
    clear h122 h
    have HE : Hid (∀ ob, Calls Tryz.prog 81 #[.pointer (some ⟨rb, 0, none⟩), .agg #[.int .u8 kd, .int .u8 c, .int .i64 pl]] (w.alloc ob) (RetI B rb s last vn (w.alloc ob) (edgeF s ⟨kd, c, pl⟩ r))) := fun ob => edge_any (HR.out.2 ob) hs ha hl ⟨kd, c, pl⟩
    generalize edgeF s ⟨kd, c, pl⟩ r = R at *
    go_enter Tryz.func60, Tryz.ntmps60
    go_wp2_with fail
    cases R with
    | ok ir =>
      obtain ⟨i, r'⟩ := ir
      refine Calls.mono (HE.out _) ?_
      rintro e w1 ⟨rfl, q⟩
      have H2 : Hid (Okk B rb s last vn w _ w1) := Okk.ahead (Adv.kp vn rb (kp_alloc w _)) q
      clear q
      go_wp2_with fail
      go_ret
      exact ⟨rfl, H2.out⟩
    | error na =>
      obtain ⟨n, a⟩ := na
      refine Calls.mono (HE.out _) ?_
      rintro e w1 ⟨rfl, q⟩
      have H2 : Hid (Er rb vn w w1) := HR.out.1.ert (Adv.kp vn rb (kp_alloc w _)) q
      clear q
      unfold Wrong
      go_wp2_with fail
      exact ⟨rfl, rfl, H2.out⟩
  rw [if_neg h122]
  have e122 : ((c : Int) == 122) = false := by simp; omega
  clear h122
  by_cases hdg : 49 ≤ c ∧ c ≤ 57
  · rw [if_pos hdg]
    have HE : Hid (∀ ob, Calls Tryz.prog 82 #[.pointer (some ⟨rb, 0, none⟩), .agg #[.int .u8 kd, .int .u8 c, .int .i64 pl]] (w.alloc ob) (RetI B rb s last vn (w.alloc ob) (backF ⟨kd, c, pl⟩ r))) := fun ob => back_any (HR.out.2 ob) hl hc ⟨kd, c, pl⟩ hdg
    generalize backF ⟨kd, c, pl⟩ r = R at *
    have hcs : ((c : Int) == 49) = true ∨ (((c : Int) == 49) = false ∧ ((c : Int) == 50) = true) ∨ (((c : Int) == 49) = false ∧ ((c : Int) == 50) = false ∧ ((c : Int) == 51) = true) ∨ (((c : Int) == 49) = false ∧ ((c : Int) == 50) = false ∧ ((c : Int) == 51) = false ∧ ((c : Int) == 52) = true) ∨ (((c : Int) == 49) = false ∧ ((c : Int) == 50) = false ∧ ((c : Int) == 51) = false ∧ ((c : Int) == 52) = false ∧ ((c : Int) == 53) = true) ∨ (((c : Int) == 49) = false ∧ ((c : Int) == 50) = false ∧ ((c : Int) == 51) = false ∧ ((c : Int) == 52) = false ∧ ((c : Int) == 53) = false ∧ ((c : Int) == 54) = true) ∨ (((c : Int) == 49) = false ∧ ((c : Int) == 50) = false ∧ ((c : Int) == 51) = false ∧ ((c : Int) == 52) = false ∧ ((c : Int) == 53) = false ∧ ((c : Int) == 54) = false ∧ ((c : Int) == 55) = true) ∨ (((c : Int) == 49) = false ∧ ((c : Int) == 50) = false ∧ ((c : Int) == 51) = false ∧ ((c : Int) == 52) = false ∧ ((c : Int) == 53) = false ∧ ((c : Int) == 54) = false ∧ ((c : Int) == 55) = false ∧ ((c : Int) == 56) = true) ∨ (((c : Int) == 49) = false ∧ ((c : Int) == 50) = false ∧ ((c : Int) == 51) = false ∧ ((c : Int) == 52) = false ∧ ((c : Int) == 53) = false ∧ ((c : Int) == 54) = false ∧ ((c : Int) == 55) = false ∧ ((c : Int) == 56) = false ∧ ((c : Int) == 57) = true) := by
      simp only [beq_iff_eq, beq_eq_false_iff_ne, ne_eq]; omega
    clear h hdg
    rcases hcs with d | ⟨d1, d⟩ | ⟨d1, d2, d⟩ | ⟨d1, d2, d3, d⟩ | ⟨d1, d2, d3, d4, d⟩ | ⟨d1, d2, d3, d4, d5, d⟩ | ⟨d1, d2, d3, d4, d5, d6, d⟩ | ⟨d1, d2, d3, d4, d5, d6, d7, d⟩ | ⟨d1, d2, d3, d4, d5, d6, d7, d8, d⟩
    all_goals
      go_enter Tryz.func60, Tryz.ntmps60
      go_wp2_with fail
      cases R with
      | ok ir =>
        obtain ⟨i, r'⟩ := ir
        refine Calls.mono (HE.out _) ?_
        rintro e w1 ⟨rfl, q⟩
        have H2 : Hid (Okk B rb s last vn w _ w1) := Okk.ahead (Adv.kp vn rb (kp_alloc w _)) q
        clear q
        go_wp2_with fail
        go_ret
        exact ⟨rfl, H2.out⟩
      | error na =>
        obtain ⟨n, a⟩ := na
        refine Calls.mono (HE.out _) ?_
        rintro e w1 ⟨rfl, q⟩
        have H2 : Hid (Er rb vn w w1) := HR.out.1.ert (Adv.kp vn rb (kp_alloc w _)) q
        clear q
        unfold Wrong
        go_wp2_with fail
        exact ⟨rfl, rfl, H2.out⟩
  rw [if_neg hdg]
  have d49 : ((c : Int) == 49) = false := by simp; omega
  have d50 : ((c : Int) == 50) = false := by simp; omega
  have d51 : ((c : Int) == 51) = false := by simp; omega
  have d52 : ((c : Int) == 52) = false := by simp; omega
  have d53 : ((c : Int) == 53) = false := by simp; omega
  have d54 : ((c : Int) == 54) = false := by simp; omega
  have d55 : ((c : Int) == 55) = false := by simp; omega
  have d56 : ((c : Int) == 56) = false := by simp; omega
  have d57 : ((c : Int) == 57) = false := by simp; omega
  have HO := fun (ob : Obj) => kOf_any c (w.alloc ob)
  obtain ⟨Q, hQ⟩ : ∃ Q, foldS (isB c) 256 = Q := ⟨_, rfl⟩
  rw [hQ] at HO ⊢
  have HO' : Hid _ := HO
  clear HO hQ hdg
  cases hk : knB (smI c) with
  | true =>
    rw [hk] at HO'
    clear hk h
    go_enter Tryz.func60, Tryz.ntmps60
    go_wp2_with fail
    refine Calls.mono (HO'.out _) ?_
    rintro e w1 ⟨rfl, q⟩
    have H1 : Hid (Kp w w1 ∧ TokBox w.heap.size ⟨kd, c, pl⟩ w1) := ⟨kp_trans (kp_alloc w _) q, HB.out.1.kp q⟩
    clear q
    have HS : Hid (SetBox w1.heap.size Q (w1.alloc (.cells #[.int .u64 Q.a, .int .u64 Q.b, .int .u64 Q.c, .int .u64 Q.d] 70)).drew) := alloc_new w1 _
    have H3 : Hid (Rr B rb s last r vn (w1.alloc (.cells #[.int .u64 Q.a, .int .u64 Q.b, .int .u64 Q.c, .int .u64 Q.d] 70)).drew ∧ Kp w (w1.alloc (.cells #[.int .u64 Q.a, .int .u64 Q.b, .int .u64 Q.c, .int .u64 Q.d] 70)).drew ∧ w1.heap.size ≠ rb ∧ vn.ownBlock ≠ some w1.heap.size) := by
      have k1 := H1.out.1
      have k2 : Kp w (w1.alloc (.cells #[.int .u64 Q.a, .int .u64 Q.b, .int .u64 Q.c, .int .u64 Q.d] 70)).drew := kp_trans (kp_trans k1 (kp_alloc _ _)) (kp_drew _)
      have l := (HR.out.1.kp k1).lt
      exact ⟨HR.out.1.kp k2, k2, by omega, (HR.out.1.kp k1).own (Nat.le_refl _)⟩
    have rl0 : ∀ w', SetBox w1.heap.size Q w' → w'.cell? ⟨w1.heap.size, 0, none⟩ = some (.int .u64 Q.a) := fun _ h => h.cells.1
    have rl1 : ∀ w', SetBox w1.heap.size Q w' → w'.cell? ⟨w1.heap.size, 1, none⟩ = some (.int .u64 Q.b) := fun _ h => h.cells.2.1
    have rl2 : ∀ w', SetBox w1.heap.size Q w' → w'.cell? ⟨w1.heap.size, 2, none⟩ = some (.int .u64 Q.c) := fun _ h => h.cells.2.2.1
    have rl3 : ∀ w', SetBox w1.heap.size Q w' → w'.cell? ⟨w1.heap.size, 3, none⟩ = some (.int .u64 Q.d) := fun _ h => h.cells.2.2.2
    go_wp2_with fail
    refine wp_region_noPanic ?_
    refine wp_region_held_drew (S := SetBox w1.heap.size Q) (by kernel_rfl) (HS.out) (fun hHeld => ?_)
    refine takeAt 0 (some 58) ?_ rfl rfl (by kernel_rfl) (by kernel_rfl) (by kernel_rfl) (fun _ _ _ h => h) (Or.inl ⟨by rfl, ?_⟩) hHeld ?_
    rotate_left
    · intro w hSw
      go_simp <;> with_reducible rfl
    try simp only [Act.put, List.setIfInBounds_toArray, List.set_cons_zero, List.set_cons_succ]
    refine takeAt 1 (some 59) ?_ rfl rfl (by kernel_rfl) (by kernel_rfl) (by kernel_rfl) (fun _ _ _ h => h) (Or.inl ⟨by rfl, ?_⟩) hHeld ?_
    rotate_left
    · intro w hSw
      go_simp <;> with_reducible rfl
    try simp only [Act.put, List.setIfInBounds_toArray, List.set_cons_zero, List.set_cons_succ]
    refine takeAt 2 (some 60) ?_ rfl rfl (by kernel_rfl) (by kernel_rfl) (by kernel_rfl) (fun _ _ _ h => h) (Or.inl ⟨by rfl, ?_⟩) hHeld ?_
    rotate_left
    · intro w hSw
      go_simp <;> with_reducible rfl
    try simp only [Act.put, List.setIfInBounds_toArray, List.set_cons_zero, List.set_cons_succ]
    refine takeAt 3 (some 61) ?_ rfl rfl (by kernel_rfl) (by kernel_rfl) (by kernel_rfl) (fun _ _ _ h => h) (Or.inl ⟨by rfl, ?_⟩) hHeld ?_
    rotate_left
    · intro w hSw
      go_simp <;> with_reducible rfl
    try simp only [Act.put, List.setIfInBounds_toArray, List.set_cons_zero, List.set_cons_succ]
    refine callAt 4 62 78 (vals := #[.pointer (some ⟨rb, 4, none⟩), .agg #[.int .u64 Q.a, .int .u64 Q.b, .int .u64 Q.c, .int .u64 Q.d]]) (by kernel_rfl) rfl rfl rfl rfl (by simp [Act.eval]) Tryz.func78 (by kernel_rfl) (by kernel_rfl) ?_
    refine Calls.mono (rset H3.out.1 Q hl) ?_
    rintro e w2 ⟨rfl, q⟩
    have H2 : Hid (Okk B rb s last vn w _ w2 ∧ SetBox w1.heap.size Q w2) := ⟨Okk.ahead (Adv.kp vn rb H3.out.2.1) q, by obtain ⟨vn', _, a⟩ := q; exact HS.out.adv a H3.out.2.2.1 H3.out.2.2.2⟩
    clear q
    refine ⟨_, rfl, H2.out.2, fun hHeld => ?_⟩
    try simp only [Act.put, List.setIfInBounds_toArray, List.set_cons_zero, List.set_cons_succ]
    refine takeAt 5 (some 4) ?_ rfl rfl (by kernel_rfl) (by kernel_rfl) (by kernel_rfl) (fun _ _ _ h => h) (Or.inl ⟨by rfl, ?_⟩) hHeld ?_
    rotate_left
    · intro w hSw
      go_simp <;> with_reducible rfl
    try simp only [Act.put, List.setIfInBounds_toArray, List.set_cons_zero, List.set_cons_succ]
    refine wpAnyH_done (by kernel_rfl) ?_ _
    refine NoPanic.normal ?_
    go_wp2_with fail
    go_ret
    exact ⟨rfl, H2.out.1⟩
  | false =>
    rw [hk] at HO'
    clear hk h
    go_enter Tryz.func60, Tryz.ntmps60
    go_wp2_with fail
    refine Calls.mono (HO'.out _) ?_
    rintro e w1 ⟨rfl, q⟩
    have H1 : Hid (Kp w w1 ∧ TokBox w.heap.size ⟨kd, c, pl⟩ w1) := ⟨kp_trans (kp_alloc w _) q, HB.out.1.kp q⟩
    clear q
    obtain ⟨⟨r0, r1, r2⟩, _⟩ := H1.out.2.cells
    have hn1 : w.heap.size < w1.heap.size := by have := (Array.getElem?_eq_some_iff.1 H1.out.2).1; exact this
    go_wp2_with fail
    exact ⟨rfl, rfl, HR.out.1.er (Adv.kp vn rb (kp_trans H1.out.1 (kp_alloc _ _)))⟩
end
end Go.Proofs.YtpahpnajeliodaaGreatDoor
/- Nodes in memory, as they are read: those of a pattern. -/
namespace Go.Proofs.YtpahpnajeliodaaGreatDoor
open Go.ChangeShapes Go.WideShapes Go.ChangeAt Go.RowKit
set_option linter.unusedVariables false
set_option linter.unusedSimpArgs false
/-- Any node, without its place in memory. -/
structure Nq where
  op : Nat
  c : Nat := 0
  set : S4 := zeroS
  mn : Int := 0
  mx : Int := 0
  lz : Bool := false
  n : Int := 0
  kids : List Int := []
def Nq.cells (d : Nq) (kv : Value) : List Value :=
  [.int .u8 d.op, .int .u8 d.c, .int .u64 d.set.a, .int .u64 d.set.b, .int .u64 d.set.c, .int .u64 d.set.d, .int .i64 d.mn, .int .i64 d.mx, .bool d.lz, .int .i64 d.n, kv]
def Nq.val (d : Nq) (kv : Value) : Value :=
  .agg #[.int .u8 d.op, .int .u8 d.c, .int .u64 d.set.a, .int .u64 d.set.b, .int .u64 d.set.c, .int .u64 d.set.d, .int .i64 d.mn, .int .i64 d.mx, .bool d.lz, .int .i64 d.n, kv]
def Nd.q (d : Nd) : Nq := ⟨d.op, d.c, d.set, d.mn, d.mx, d.lz, d.n, d.kids.map fun (k : Nat) => (k : Int)⟩
/-- A slice of numbers that can be read. -/
def Ks (w : World) (v : Value) (ks : List Int) : Prop :=
  ∃ a cap, v = .slice a ks.length cap ∧ ks.length ≤ cap ∧ cap ≤ maxLen ∧ ∀ i k, ks[i]? = some k → ∃ b o, a = some ⟨b, o, none⟩ ∧ w.cell? ⟨b, o + i, none⟩ = some (.int .i64 k)
/-- A slice of nodes that can be read. -/
def Pt (w : World) (v : Value) (L : List Nq) : Prop :=
  ∃ a cap, v = .slice a L.length cap ∧ L.length ≤ cap ∧ cap ≤ maxLen ∧ ∀ i d, L[i]? = some d → ∃ b o kv, a = some ⟨b, o, none⟩ ∧ (∀ j u, (d.cells kv)[j]? = some u → w.cell? ⟨b, o + i * 11 + j, none⟩ = some u) ∧ Ks w kv d.kids
section
variable {w w1 : World} {v : Value} {ks : List Int} {L : List Nq}
theorem kp_cell (k : Kp w w1) {a : Addr} {u : Value} (h : w.cell? a = some u) : w1.cell? a = some u := by
  rw [World.cell?_of_block (k.block _ ?_)]
  · exact h
  · rcases Nat.lt_or_ge a.block w.heap.size with q | q
    · exact q
    · simp [World.cell?, Array.getElem?_eq_none q] at h
theorem Ks.of (h : Ks w v ks) (k : ∀ (a : Addr) (u : Value), w.cell? a = some u → w1.cell? a = some u) : Ks w1 v ks := by
  obtain ⟨a, cap, h1, h2, h3, h4⟩ := h
  refine ⟨a, cap, h1, h2, h3, fun i x hx => ?_⟩
  obtain ⟨b, o, e, q⟩ := h4 i x hx
  exact ⟨b, o, e, k _ _ q⟩
theorem Pt.of (h : Pt w v L) (k : ∀ (a : Addr) (u : Value), w.cell? a = some u → w1.cell? a = some u) : Pt w1 v L := by
  obtain ⟨a, cap, h1, h2, h3, h4⟩ := h
  refine ⟨a, cap, h1, h2, h3, fun i x hx => ?_⟩
  obtain ⟨b, o, kv, e, q, z⟩ := h4 i x hx
  exact ⟨b, o, kv, e, fun j u hu => k _ _ (q j u hu), z.of k⟩
theorem Ks.kp (h : Ks w v ks) (k : Kp w w1) : Ks w1 v ks := h.of fun _ _ q => kp_cell k q
theorem Pt.kp (h : Pt w v L) (k : Kp w w1) : Pt w1 v L := h.of fun _ _ q => kp_cell k q
theorem krow_ks {B : Nat} {ks : List Nat} (h : KRow B w v ks) : Ks w v (ks.map fun (k : Nat) => (k : Int)) := by
  obtain ⟨a, cap, e, h1, h2⟩ := owns_form h
  refine ⟨a, cap, by simpa using e, by simpa using h1, h2, fun i x hx => ?_⟩
  rw [List.getElem?_map] at hx
  obtain ⟨k, hk, rfl⟩ := Option.map_eq_some_iff.1 hx
  rcases h.2 with ⟨_, q⟩ | ⟨b, cap', cur, e', hb, hg, q1, q2, q3, q4⟩
  · rw [List.eq_nil_of_length_eq_zero q] at hk; simp at hk
  · rw [e'] at e
    injection e with e _ _
    refine ⟨b, 0, e.symm, ?_⟩
    have : (nums ks)[i]? = some (.int .i64 k) := by simp [nums, hk]
    rw [cell_at hg, Nat.zero_add]
    rw [← q4, List.getElem?_take] at this
    split at this
    · rw [Array.getElem?_toList] at this; exact this
    · cases this
theorem Rr.pt {B rb : Nat} {s last : ByteArray} {r : RS} {vn : Qv} (h : Rr B rb s last r vn w) : Pt w vn.v (r.nds.map Nd.q) := by
  obtain ⟨ns, hr⟩ := h
  have hl := hr.len
  obtain ⟨a, cap, e, h1, h2⟩ := owns_form hr.row
  refine ⟨a, cap, by rw [e, List.length_map, hl], by rw [List.length_map, ← hl]; exact h1, h2, fun i x hx => ?_⟩
  rw [← hr.nds, List.map_map, List.getElem?_map] at hx
  obtain ⟨⟨d, kv⟩, hk, rfl⟩ := Option.map_eq_some_iff.1 hx
  rcases hr.row.2 with ⟨_, q⟩ | ⟨b, cap', cur, e', hb, hg, q1, q2, q3, q4⟩
  · rw [List.eq_nil_of_length_eq_zero q] at hk; simp at hk
  · rw [e'] at e
    injection e with e _ _
    refine ⟨b, 0, kv, e.symm, fun j u hu => ?_, krow_ks (hr.kids _ (List.mem_of_getElem? hk)).1⟩
    have hj : j < 11 := by
      have := (List.getElem?_eq_some_iff.1 hu).1
      simpa [Nq.cells] using this
    have hf := flat_get hk j hj
    rw [show (d.cells kv)[j]? = some u from hu] at hf
    rw [cell_at hg, Nat.zero_add]
    rw [← q4, List.getElem?_take] at hf
    split at hf
    · rw [Array.getElem?_toList] at hf; exact hf
    · cases hf
end
end Go.Proofs.YtpahpnajeliodaaGreatDoor
/- What it is that nodes are a tree: as the checker says it. -/
namespace Go.Proofs.YtpahpnajeliodaaGreatDoor
open Go.ChangeShapes Go.WideShapes Go.ChangeAt Go.RowKit
set_option linter.unusedVariables false
set_option linter.unusedSimpArgs false
def isG (G n : Int) : Bool := decide (1 ≤ n ∧ n ≤ G)
def hasB (L : List Nq) (a : Int) : Bool := decide (0 ≤ a ∧ a < (L.length : Int))
def nodeAt (L : List Nq) (a : Int) : Nq := (L[a.toNat]?).getD { op := 0 }
def bytesB (L : List Nq) : List Int → Bool
  | [] => true
  | a :: r => hasB L a && (nodeAt L a).op == 2 && bytesB L r
def mayB (L : List Nq) (a : Int) : Bool := hasB L a && repB (nodeAt L a).op && (!((nodeAt L a).op == 5) || bytesB L (nodeAt L a).kids)
def timesB (d : Nq) : Bool := decide (0 ≤ d.mn ∧ d.mn ≤ 60 ∧ (d.mx < 0 ∨ (d.mn ≤ d.mx ∧ d.mx ≤ 60)))
def leafB (op : Nat) : Bool := op == 1 || op == 2 || op == 3 || op == 4 || op == 10 || op == 11 || op == 12 || op == 13 || op == 14 || op == 15
def fitB (L : List Nq) (G : Int) (d : Nq) : Bool :=
  if leafB d.op then d.kids.length == 0
  else if d.op = 5 ∨ d.op = 6 then decide (2 ≤ d.kids.length)
  else if d.op = 9 then d.kids.length == 0 && isG G d.n
  else if d.op = 8 then d.kids.length == 1 && isG G d.n
  else if d.op = 7 then d.kids.length == 1 && timesB d && mayB L (d.kids.headD 0)
  else false
def treeF (L : List Nq) (G : Int) : Nat → List Int → List Bool → Bool
  | 0, _, _ => false
  | n + 1, next, asked =>
    match next.getLast? with
    | none => true
    | some a => if hasB L a && !(asked.getD a.toNat false) && fitB L G (nodeAt L a) then treeF L G n (next.dropLast ++ (nodeAt L a).kids) (asked.set a.toNat true) else false
def soundF (L : List Nq) (root G : Int) : Bool := decide (0 ≤ G ∧ G ≤ 9) && treeF L G (L.length + 1) [root] (List.replicate L.length false)
theorem count_set {l : List Bool} {i : Nat} (h : l[i]? = some false) : (l.set i true).count false + 1 = l.count false := by
  induction l generalizing i with
  | nil => simp at h
  | cons x l ih =>
    cases i with
    | zero => simp only [List.getElem?_cons_zero, Option.some.injEq] at h; subst h; simp
    | succ i =>
      simp only [List.getElem?_cons_succ] at h
      have := ih h
      simp only [List.set_cons_succ, List.count_cons]
      omega
end Go.Proofs.YtpahpnajeliodaaGreatDoor
/- The document's code of a pattern's tree, as a list of instructions: plain. -/
namespace Go.Proofs.YtpahpnajeliodaaGreatDoor
open Go.ChangeShapes Go.WideShapes Go.ChangeAt Go.RowKit
set_option linter.unusedVariables false
set_option linter.unusedSimpArgs false
/-- An instruction. -/
structure Ins where
  op : Nat
  c : Nat := 0
  set : S4 := zeroS
  x : Int := 0
  y : Int := 0
/-- A pattern as a tree. -/
inductive PT where
  | empty
  | leaf (i : Ins)
  | seq (a b : PT)
  | alt (a b : PT)
  | many (mn : Nat) (mx : Option Nat) (lz : Bool) (k : PT)
  | group (n : Int) (k : PT)
def splitI (lz : Bool) (p e : Nat) : Ins := if lz then { op := 4, x := e, y := (p : Int) + 1 } else { op := 4, x := (p : Int) + 1, y := e }
def jumpI (e : Nat) : Ins := { op := 5, x := e }
def startI (r : Nat) : Ins := { op := 12, x := r }
def goneI (r : Nat) : Ins := { op := 13, x := r }
def saveI (x : Int) : Ins := { op := 6, x := x }
def PT.len : PT → Nat
  | .empty => 0
  | .leaf _ => 1
  | .seq a b => a.len + b.len
  | .alt a b => a.len + b.len + 2
  | .many mn mx _ k => mn * k.len + (match mx with | none => k.len + 4 | some m => (m - mn) * (k.len + 3))
  | .group _ k => k.len + 2
def PT.rnd : PT → Nat
  | .empty => 0
  | .leaf _ => 0
  | .seq a b => a.rnd + b.rnd
  | .alt a b => a.rnd + b.rnd
  | .many mn mx _ k => mn * k.rnd + (match mx with | none => k.rnd + 1 | some m => (m - mn) * (k.rnd + 1))
  | .group _ k => k.rnd
def copiesC (f : Nat → Nat → List Ins) (l q : Nat) : Nat → Nat → Nat → List Ins
  | 0, _, _ => []
  | n + 1, p, r => f p r ++ copiesC f l q n (p + l) (r + q)
/-- Tries of a kid, one behind the other; 's': the split at a place. -/
def triesC (f : Nat → Nat → List Ins) (l q : Nat) (s : Nat → Ins) : Nat → Nat → Nat → List Ins
  | 0, _, _ => []
  | n + 1, p, r => s p :: startI r :: f (p + 2) (r + 1) ++ goneI r :: triesC f l q s n (p + l + 3) (r + q + 1)
def PT.code : PT → Nat → Nat → List Ins
  | .empty, _, _ => []
  | .leaf i, _, _ => [i]
  | .seq a b, p, r => a.code p r ++ b.code (p + a.len) (r + a.rnd)
  | .alt a b, p, r => splitI false p (p + a.len + 2) :: a.code (p + 1) r ++ jumpI (p + a.len + b.len + 2) :: b.code (p + a.len + 2) (r + a.rnd)
  | .many mn mx lz k, p, r => copiesC k.code k.len k.rnd mn p r ++
      (match mx with
       | none => splitI lz (p + mn * k.len) (p + mn * k.len + k.len + 4) :: startI (r + mn * k.rnd) :: k.code (p + mn * k.len + 2) (r + mn * k.rnd + 1) ++ [goneI (r + mn * k.rnd), jumpI (p + mn * k.len)]
       | some m => triesC k.code k.len k.rnd (fun a => splitI lz a (p + mn * k.len + (m - mn) * (k.len + 3))) (m - mn) (p + mn * k.len) (r + mn * k.rnd))
  | .group n k, p, r => saveI (2 * n) :: k.code (p + 1) r ++ [saveI (2 * n + 1)]
theorem copiesC_len (f : Nat → Nat → List Ins) (l q : Nat) (hf : ∀ p r, (f p r).length = l) (n p r : Nat) : (copiesC f l q n p r).length = n * l := by
  induction n generalizing p r with
  | zero => simp [copiesC]
  | succ n ih => simp only [copiesC, List.length_append, hf, ih, Nat.succ_mul]; omega
theorem triesC_len (f : Nat → Nat → List Ins) (l q : Nat) (s : Nat → Ins) (hf : ∀ p r, (f p r).length = l) (n p r : Nat) : (triesC f l q s n p r).length = n * (l + 3) := by
  induction n generalizing p r with
  | zero => simp [triesC]
  | succ n ih => simp only [triesC, List.length_append, List.length_cons, hf, ih, Nat.succ_mul]; omega
theorem PT.code_len (t : PT) (p r : Nat) : (t.code p r).length = t.len := by
  induction t generalizing p r with
  | empty => rfl
  | leaf i => rfl
  | seq a b iha ihb => simp [PT.code, PT.len, iha, ihb]
  | alt a b iha ihb => simp [PT.code, PT.len, iha, ihb]; omega
  | many mn mx lz k ih =>
    cases mx with
    | none => simp [PT.code, PT.len, ih, copiesC_len _ _ _ ih]
    | some m => simp [PT.code, PT.len, copiesC_len _ _ _ ih, triesC_len _ _ _ _ ih]
  | group n k ih => simp [PT.code, PT.len, ih]
/-- What has been laid, and how many rounds; what comes of one more tree. -/
def runT (t : PT) (x : List Ins × Nat) : Option (List Ins × Nat) :=
  if x.1.length + t.len ≤ 2000 then some (x.1 ++ t.code x.1.length x.2, x.2 + t.rnd) else none
theorem runT_empty (x : List Ins × Nat) (h : x.1.length ≤ 2000) : runT .empty x = some x := by simp [runT, PT.len, PT.code, PT.rnd, h]
theorem runT_seq (a b : PT) (x : List Ins × Nat) : runT (.seq a b) x = (runT a x).bind (runT b) := by
  unfold runT
  by_cases h : x.1.length + a.len ≤ 2000
  · rw [if_pos h, Option.bind_some]
    by_cases h2 : x.1.length + (a.len + b.len) ≤ 2000
    · rw [if_pos (by simpa [PT.len] using h2), if_pos (by simp [PT.code_len]; omega)]
      simp only [List.length_append, PT.code_len, PT.len, PT.code, PT.rnd, List.append_assoc, Nat.add_assoc]
    · rw [if_neg (by simpa [PT.len] using h2), if_neg (by simp [PT.code_len]; omega)]
  · rw [if_neg h, if_neg (by simp only [PT.len]; omega), Option.bind_none]
theorem runT_ge {t : PT} {x y : List Ins × Nat} (h : runT t x = some y) : y.1.length ≤ 2000 := by
  unfold runT at h
  split at h
  · cases h; simp [PT.code_len]; assumption
  · cases h
theorem copies_rnd (a b k : Nat) (h : a ≤ b) : k * a ≤ k * b := Nat.mul_le_mul_left k h
theorem PT.rnd_le (t : PT) : t.rnd ≤ t.len := by
  induction t with
  | empty => simp [PT.rnd]
  | leaf i => simp [PT.rnd]
  | seq a b iha ihb => simp only [PT.rnd, PT.len]; omega
  | alt a b iha ihb => simp only [PT.rnd, PT.len]; omega
  | many mn mx lz k ih =>
    have h1 := copies_rnd _ _ mn ih
    cases mx with
    | none => simp only [PT.rnd, PT.len]; omega
    | some m =>
      have h2 := copies_rnd (k.rnd + 1) (k.len + 3) (m - mn) (by omega)
      simp only [PT.rnd, PT.len]; omega
  | group n k ih => simp only [PT.rnd, PT.len]; omega
/-- Not too long; no more rounds than instructions. -/
def Okx (x : List Ins × Nat) : Prop := x.1.length ≤ 2000 ∧ x.2 ≤ x.1.length
theorem runT_ok {t : PT} {x y : List Ins × Nat} (h : runT t x = some y) (hx : Okx x) : Okx y := by
  refine ⟨runT_ge h, ?_⟩
  unfold runT at h
  have := t.rnd_le
  have := hx.2
  split at h
  · cases h; simp only [List.length_append, PT.code_len]; omega
  · cases h
/-- One behind the other. -/
def seqOf : List PT → PT
  | [] => .empty
  | t :: ts => .seq t (seqOf ts)
theorem runT_seqOf_append (us bs : List PT) (x : List Ins × Nat) (hx : x.1.length ≤ 2000) : runT (seqOf (us ++ bs)) x = (runT (seqOf us) x).bind (runT (seqOf bs)) := by
  induction us generalizing x with
  | nil => simp [seqOf, runT_empty x hx]
  | cons a us ih =>
    simp only [List.cons_append, seqOf, runT_seq]
    cases h : runT a x with
    | none => rfl
    | some y => simp only [Option.bind_some]; exact ih y (runT_ge h)
/-- The instruction of a node that has no kids. -/
def leafI (d : Nq) : Ins :=
  if d.op = 2 then { op := 1, c := d.c } else if d.op = 4 then { op := 3, set := d.set } else if d.op = 10 then { op := 8 } else if d.op = 11 then { op := 9 } else if d.op = 12 then { op := 10 }
  else if d.op = 13 then { op := 11 } else if d.op = 14 then { op := 6, x := 20 } else if d.op = 15 then { op := 6, x := 21 } else if d.op = 9 then { op := 7, x := d.n } else { op := 2 }
def mapT (f : Int → Option PT) : List Int → Option (List PT)
  | [] => some []
  | a :: r => (f a).bind fun t => (mapT f r).map fun ts => t :: ts
def altOf : List PT → PT
  | [] => .empty
  | [t] => t
  | t :: u :: ts => .alt t (altOf (u :: ts))
/-- The tree at a node. -/
def toT (L : List Nq) : Nat → Int → Option PT
  | 0, _ => none
  | n + 1, a =>
    if hasB L a then
      let d := nodeAt L a
      if d.op = 5 then if 1 ≤ d.kids.length then (mapT (toT L n) d.kids).map seqOf else none
      else if d.op = 1 then some .empty
      else if d.op = 6 then if 1 ≤ d.kids.length then (mapT (toT L n) d.kids).map altOf else none
      else if d.op = 7 then if d.kids.length = 1 ∧ 0 ≤ d.mn ∧ d.mn ≤ 60 ∧ d.mx ≤ 60 ∧ (d.mx < 0 ∨ d.mn ≤ d.mx) then (toT L n (d.kids.headD 0)).map (.many d.mn.toNat (if d.mx < 0 then none else some d.mx.toNat) d.lz) else none
      else if d.op = 8 then if d.kids.length = 1 ∧ 0 ≤ d.n ∧ d.n ≤ 9 then (toT L n (d.kids.headD 0)).map (.group d.n) else none
      else some (.leaf (leafI d))
    else none
end Go.Proofs.YtpahpnajeliodaaGreatDoor
/- Trees of patterns: their size, and what is asked of their leaves. -/
namespace Go.Proofs.YtpahpnajeliodaaGreatDoor
set_option linter.unusedVariables false
set_option linter.unusedSimpArgs false
def PT.size : PT → Nat
  | .seq a b => a.size + b.size + 1
  | .alt a b => a.size + b.size + 1
  | .many _ _ _ k => k.size + 1
  | .group _ k => k.size + 1
  | _ => 1
def leafK (i : Ins) : Prop := (i.op = 1 ∨ i.op = 2 ∨ i.op = 3 ∨ i.op = 8 ∨ i.op = 9 ∨ i.op = 10 ∨ i.op = 11) ∨ (i.op = 6 ∧ 0 ≤ i.x ∧ i.x < 22) ∨ (i.op = 7 ∧ 0 ≤ i.x ∧ i.x < 10)
def PT.gd : PT → Prop
  | .empty => True
  | .leaf i => leafK i
  | .seq a b => a.gd ∧ b.gd
  | .alt a b => a.gd ∧ b.gd
  | .many _ _ _ k => k.gd
  | .group n k => (0 ≤ n ∧ n ≤ 9) ∧ k.gd
end Go.Proofs.YtpahpnajeliodaaGreatDoor
/- The reader's call number. -/
namespace Go.Proofs.YtpahpnajeliodaaGreatDoor
open Go.ChangeShapes Go.WideShapes Go.ChangeAt Go.RowKit
set_option linter.unusedVariables false
set_option linter.unusedSimpArgs false
/-- Digits from a place on: the number, and where they end; none: too great, or too many. -/
def numG (s : ByteArray) (fr : Nat) : Nat → Nat → Nat → Option (Nat × Nat)
  | 0, k, n => some (n, k)
  | f + 1, k, n =>
    if k < s.size then
      if digB (byteAt s k) then
        if 60 < 10 * n + (byteAt s k - 48) ∨ 3 < k + 1 - fr then none else numG s fr f (k + 1) (10 * n + (byteAt s k - 48))
      else some (n, k)
    else some (n, k)
def numF (s : ByteArray) (k : Nat) : Option (Nat × Nat) := numG s k (s.size + 1 - k) k 0
theorem numG_le {s : ByteArray} {fr f : Nat} : ∀ {k n m j : Nat}, numG s fr f k n = some (m, j) → k ≤ s.size → n ≤ 60 → k ≤ j ∧ j ≤ s.size ∧ m ≤ 60 := by
  induction f with
  | zero => intro k n m j h h1 h2; simp [numG] at h; omega
  | succ f ih =>
    intro k n m j h h1 h2
    rw [numG] at h
    split at h
    · split at h
      · split at h
        · cases h
        · rename_i hq
          obtain ⟨a, b, c⟩ := ih h (by omega) (by omega)
          exact ⟨by omega, b, c⟩
      · cases h; exact ⟨by omega, h1, h2⟩
    · cases h; exact ⟨by omega, h1, h2⟩
theorem numF_le {s : ByteArray} {k m j : Nat} (h : numF s k = some (m, j)) (hk : k ≤ s.size) : k ≤ j ∧ j ≤ s.size ∧ m ≤ 60 := numG_le h hk (by omega)
/-- What a call of number comes to. -/
def NumP (B rb : Nat) (s last : ByteArray) (r : RS) (vn : Qv) (w : World) (pl : Nat) (R : Option (Nat × Nat)) (e : Ending) (w' : World) : Prop :=
  match R with
  | some (n, j) => e = .returned (.tuple #[.int .i64 n, .bool (decide (r.k < j))]) ∧ Rr B rb s last { r with k := j } vn w' ∧ Adv rb vn w vn w'
  | none => e = Wrong 32 pl ∧ Er rb vn w w'
section
variable {B rb : Nat} {s last : ByteArray} {r : RS} {vn : Qv} {w : World}
theorem Rr.step (h : Rr B rb s last r vn w) : Rr B rb s last { r with k := r.k + 1 } vn (w.setCell ⟨rb, 1, none⟩ (.int .i64 ((r.k : Int) + 1))) := h.scan (fr_set _ _ _ _) h.scn.step
set_option maxHeartbeats 4000000 in
set_option maxRecDepth 100000 in
theorem number_any (h : Rr B rb s last r vn w) (hs : s.size ≤ 400) (ha : r.k ≤ s.size) (t : Tok) :
    Calls Tryz.prog 93 #[.pointer (some ⟨rb, 0, none⟩), t.val] w (NumP B rb s last r vn w t.pl (numF s r.k)) := by
  obtain ⟨kd, c, pl⟩ := t
  unfold Tok.val numF
  simp only
  obtain ⟨R, hR⟩ : ∃ R, numG s r.k (s.size + 1 - r.k) r.k 0 = R := ⟨_, rfl⟩
  rw [hR]
  have hne : w.heap.size ≠ rb := Nat.ne_of_gt h.lt
  have HV : Hid (vn.ownBlock ≠ some w.heap.size) := h.own (Nat.le_refl _)
  have HR : Hid (Rr B rb s last r vn w ∧ numG s r.k (s.size + 1 - r.k) r.k 0 = R) := ⟨h, hR⟩
  have c1 := (h.kp (kp_alloc w (.cells #[.int .u8 kd, .int .u8 c, .int .i64 pl] 75))).scn.c1
  obtain ⟨fr, hfr⟩ : ∃ fr, r.k = fr := ⟨_, rfl⟩
  have HK : Hid (r.k = fr) := hfr
  rw [hfr] at c1 HR ha
  clear h hR hfr
  go_enter Tryz.func93, Tryz.ntmps93
  go_wp2_with fail
  go_loopw [7] (fun vi wr => ∃ (k n f : Nat), vi = .int .i64 n ∧ n ≤ 60 ∧ fr ≤ k ∧ k ≤ fr + 3 ∧ k ≤ s.size ∧ f = s.size + 1 - k ∧ Rr B rb s last { r with k := k } vn wr ∧ Adv rb vn w vn wr ∧ TokBox w.heap.size ⟨kd, c, pl⟩ wr ∧ numG s fr f k n = R) (fun _ wr => s.size + 1 - atOf rb wr)
  case atStart => exact ⟨fr, 0, _, rfl, by omega, by omega, by omega, ha, rfl, by rw [← HK.out]; exact HR.out.1.kp (kp_alloc w _), Adv.kp vn rb (kp_alloc w _), alloc_new w _, HR.out.2⟩
  case round =>
    obtain ⟨k, n, f, rfl, hn, hk1, hk3, hk, hf, hO, hA, hT, hG⟩ := hrel
    have HAt : Hid (atOf rb wr = k) := hO.scn.atOf
    obtain ⟨f, rfl⟩ : ∃ f', f = f' + 1 := ⟨f - 1, by omega⟩
    have HF : Hid (f + 1 = s.size + 1 - k) := hf
    clear hf
    rw [numG] at hG
    have HS : Hid (Rr B rb s last { r with k := k } vn wr ∧ Adv rb vn w vn wr ∧ TokBox w.heap.size ⟨kd, c, pl⟩ wr) := ⟨hO, hA, hT⟩
    have d0 : wr.cell? ⟨rb, 0, none⟩ = some (.string s) := hO.scn.c0
    have d1 : wr.cell? ⟨rb, 1, none⟩ = some (.int .i64 k) := hO.scn.c1
    by_cases hlt : k < s.size
    · have hd : decide ((k : Int) < (s.size : Int)) = true := by simp; omega
      rw [if_pos hlt] at hG
      have HBy : Hid (byteAt s k = (s[k]).toNat) := byteAt_eq s k hlt
      have HSc : Hid (Scn 50 (vn.v :: .string last :: .int .i64 r.g :: r.cl.map Value.bool) s k r.md r.cs rb wr.drew) := hO.scn.drewN 1
      have rl0 : ∀ w', Scn 50 (vn.v :: .string last :: .int .i64 r.g :: r.cl.map Value.bool) s k r.md r.cs rb w' → w'.cell? ⟨rb, 0, none⟩ = some (.string s) := fun _ h => h.c0
      have rl1 : ∀ w', Scn 50 (vn.v :: .string last :: .int .i64 r.g :: r.cl.map Value.bool) s k r.md r.cs rb w' → w'.cell? ⟨rb, 1, none⟩ = some (.int .i64 k) := fun _ h => h.c1
      have HG : Hid ((if digB (byteAt s k) then if 60 < 10 * n + (byteAt s k - 48) ∨ 3 < k + 1 - fr then none else numG s fr f (k + 1) (10 * n + (byteAt s k - 48)) else some (n, k)) = R) := hG
      obtain ⟨y, hy⟩ : ∃ y, digB ((s[k]).toNat : Int) = y := ⟨_, rfl⟩
      have HY : Hid (digB ((s[k]).toNat : Int) = y) := hy
      have HI := fun (x : World) => is_d ((s[k]).toNat : Int) x
      rw [hy] at HI
      have HI' : Hid _ := HI
      clear hO hA hT hG HI hy
      go_wp2_with fail
      refine wp_region_noPanic ?_
      refine wp_region_held_drew (S := Scn 50 (vn.v :: .string last :: .int .i64 r.g :: r.cl.map Value.bool) s k r.md r.cs rb) (by kernel_rfl) (HSc.out) (fun hHeld => ?_)
      refine takeAt 0 (some 13) ?_ rfl rfl (by kernel_rfl) (by kernel_rfl) (by kernel_rfl) (fun _ _ _ h => h) (Or.inl ⟨by rfl, ?_⟩) hHeld ?_
      rotate_left
      · intro w hSw
        go_simp <;> with_reducible rfl
      try simp only [Act.put, List.setIfInBounds_toArray, List.set_cons_zero, List.set_cons_succ]
      refine takeAt 1 (some 14) ?_ rfl rfl (by kernel_rfl) (by kernel_rfl) (by kernel_rfl) (fun _ _ _ h => h) (Or.inl ⟨by rfl, ?_⟩) hHeld ?_
      rotate_left
      · intro w hSw
        go_simp <;> with_reducible rfl
      try simp only [Act.put, List.setIfInBounds_toArray, List.set_cons_zero, List.set_cons_succ]
      refine takeAt 2 (some 15) ?_ rfl rfl (by kernel_rfl) (by kernel_rfl) (by kernel_rfl) (fun _ _ _ h => h) (Or.inl ⟨by rfl, ?_⟩) hHeld ?_
      rotate_left
      · intro w hSw
        go_simp <;> with_reducible rfl
      try simp only [Act.put, List.setIfInBounds_toArray, List.set_cons_zero, List.set_cons_succ]
      refine takeAt 3 (some 16) ?_ rfl rfl (by kernel_rfl) (by kernel_rfl) (by kernel_rfl) (fun _ _ _ h => h) (Or.inl ⟨by rfl, ?_⟩) hHeld ?_
      rotate_left
      · intro w hSw
        go_simp <;> with_reducible rfl
      try simp only [Act.put, List.setIfInBounds_toArray, List.set_cons_zero, List.set_cons_succ]
      refine takeAt 4 (some 17) ?_ rfl rfl (by kernel_rfl) (by kernel_rfl) (by kernel_rfl) (fun _ _ _ h => h) (Or.inl ⟨by rfl, ?_⟩) hHeld ?_
      rotate_left
      · intro w hSw
        go_simp <;> with_reducible rfl
      try simp only [Act.put, List.setIfInBounds_toArray, List.set_cons_zero, List.set_cons_succ]
      refine takeAt 5 (some 18) ?_ rfl rfl (by kernel_rfl) (by kernel_rfl) (by kernel_rfl) (fun _ _ _ h => h) (Or.inl ⟨by rfl, ?_⟩) hHeld ?_
      rotate_left
      · intro w hSw
        go_simp <;> with_reducible rfl
      try simp only [Act.put, List.setIfInBounds_toArray, List.set_cons_zero, List.set_cons_succ]
      refine takeAt 6 (some 19) ?_ rfl rfl (by kernel_rfl) (by kernel_rfl) (by kernel_rfl) (fun _ _ _ h => h) (Or.inl ⟨by rfl, ?_⟩) hHeld ?_
      rotate_left
      · intro w hSw
        go_simp <;> with_reducible rfl
      try simp only [Act.put, List.setIfInBounds_toArray, List.set_cons_zero, List.set_cons_succ]
      refine takeAt 7 (some 20) ?_ rfl rfl (by kernel_rfl) (by kernel_rfl) (by kernel_rfl) (fun _ _ _ h => h) (Or.inl ⟨by rfl, ?_⟩) hHeld ?_
      rotate_left
      · intro w hSw
        go_simp <;> with_reducible rfl
      try simp only [Act.put, List.setIfInBounds_toArray, List.set_cons_zero, List.set_cons_succ]
      refine takeAt 8 (some 21) ?_ rfl rfl (by kernel_rfl) (by kernel_rfl) (by kernel_rfl) (fun _ _ _ h => h) (Or.inl ⟨by rfl, ?_⟩) hHeld ?_
      rotate_left
      · intro w hSw
        go_simp <;> with_reducible rfl
      try simp only [Act.put, List.setIfInBounds_toArray, List.set_cons_zero, List.set_cons_succ]
      refine takeAt 9 (some 22) ?_ rfl rfl (by kernel_rfl) (by kernel_rfl) (by kernel_rfl) (fun _ _ _ h => h) (Or.inl ⟨by rfl, ?_⟩) hHeld ?_
      rotate_left
      · intro w hSw
        go_simp <;> with_reducible rfl
      try simp only [Act.put, List.setIfInBounds_toArray, List.set_cons_zero, List.set_cons_succ]
      refine takeAt 10 (some 23) ?_ rfl rfl (by kernel_rfl) (by kernel_rfl) (by kernel_rfl) (fun _ _ _ h => h) (Or.inl ⟨by rfl, ?_⟩) hHeld ?_
      rotate_left
      · intro w hSw
        go_simp <;> with_reducible rfl
      try simp only [Act.put, List.setIfInBounds_toArray, List.set_cons_zero, List.set_cons_succ]
      refine takeAt 11 (some 24) ?_ rfl rfl (by kernel_rfl) (by kernel_rfl) (by kernel_rfl) (fun _ _ _ h => h) (Or.inl ⟨by rfl, ?_⟩) hHeld ?_
      rotate_left
      · intro w hSw
        go_simp <;> with_reducible rfl
      try simp only [Act.put, List.setIfInBounds_toArray, List.set_cons_zero, List.set_cons_succ]
      refine takeAt 12 (some 25) ?_ rfl rfl (by kernel_rfl) (by kernel_rfl) (by kernel_rfl) (fun _ _ _ h => h) (Or.inl ⟨by rfl, ?_⟩) hHeld ?_
      rotate_left
      · intro w hSw
        go_simp <;> with_reducible rfl
      try simp only [Act.put, List.setIfInBounds_toArray, List.set_cons_zero, List.set_cons_succ]
      refine takeAt 13 (some 26) ?_ rfl rfl (by kernel_rfl) (by kernel_rfl) (by kernel_rfl) (fun _ _ _ h => h) (Or.inl ⟨by rfl, ?_⟩) hHeld ?_
      rotate_left
      · intro w hSw
        go_simp <;> with_reducible rfl
      try simp only [Act.put, List.setIfInBounds_toArray, List.set_cons_zero, List.set_cons_succ]
      refine takeAt 14 (some 27) ?_ rfl rfl (by kernel_rfl) (by kernel_rfl) (by kernel_rfl) (fun _ _ _ h => h) (Or.inl ⟨by rfl, ?_⟩) hHeld ?_
      rotate_left
      · intro w hSw
        go_simp <;> with_reducible rfl
      try simp only [Act.put, List.setIfInBounds_toArray, List.set_cons_zero, List.set_cons_succ]
      refine takeAt 15 (some 28) ?_ rfl rfl (by kernel_rfl) (by kernel_rfl) (by kernel_rfl) (fun _ _ _ h => h) (Or.inl ⟨by rfl, ?_⟩) hHeld ?_
      rotate_left
      · intro w hSw
        go_simp <;> with_reducible rfl
      try simp only [Act.put, List.setIfInBounds_toArray, List.set_cons_zero, List.set_cons_succ]
      refine takeAt 16 (some 29) ?_ rfl rfl (by kernel_rfl) (by kernel_rfl) (by kernel_rfl) (fun _ _ _ h => h) (Or.inl ⟨by rfl, ?_⟩) hHeld ?_
      rotate_left
      · intro w hSw
        go_simp <;> with_reducible rfl
      try simp only [Act.put, List.setIfInBounds_toArray, List.set_cons_zero, List.set_cons_succ]
      refine takeAt 17 (some 30) ?_ rfl rfl (by kernel_rfl) (by kernel_rfl) (by kernel_rfl) (fun _ _ _ h => h) (Or.inl ⟨by rfl, ?_⟩) hHeld ?_
      rotate_left
      · intro w hSw
        go_simp <;> with_reducible rfl
      try simp only [Act.put, List.setIfInBounds_toArray, List.set_cons_zero, List.set_cons_succ]
      refine takeAt 18 (some 31) ?_ rfl rfl (by kernel_rfl) (by kernel_rfl) (by kernel_rfl) (fun _ _ _ h => h) (Or.inl ⟨by rfl, ?_⟩) hHeld ?_
      rotate_left
      · intro w hSw
        go_simp <;> with_reducible rfl
      try simp only [Act.put, List.setIfInBounds_toArray, List.set_cons_zero, List.set_cons_succ]
      refine takeAt 19 (some 32) ?_ rfl rfl (by kernel_rfl) (by kernel_rfl) (by kernel_rfl) (fun _ _ _ h => h) (Or.inl ⟨by rfl, ?_⟩) hHeld ?_
      rotate_left
      · intro w hSw
        go_simp <;> with_reducible rfl
      try simp only [Act.put, List.setIfInBounds_toArray, List.set_cons_zero, List.set_cons_succ]
      refine takeAt 20 (some 33) ?_ rfl rfl (by kernel_rfl) (by kernel_rfl) (by kernel_rfl) (fun _ _ _ h => h) (Or.inl ⟨by rfl, ?_⟩) hHeld ?_
      rotate_left
      · intro w hSw
        go_simp <;> with_reducible rfl
      try simp only [Act.put, List.setIfInBounds_toArray, List.set_cons_zero, List.set_cons_succ]
      refine takeAt 21 (some 34) ?_ rfl rfl (by kernel_rfl) (by kernel_rfl) (by kernel_rfl) (fun _ _ _ h => h) (Or.inl ⟨by rfl, ?_⟩) hHeld ?_
      rotate_left
      · intro w hSw
        go_simp <;> with_reducible rfl
      try simp only [Act.put, List.setIfInBounds_toArray, List.set_cons_zero, List.set_cons_succ]
      refine takeAt 22 (some 35) ?_ rfl rfl (by kernel_rfl) (by kernel_rfl) (by kernel_rfl) (fun _ _ _ h => h) (Or.inl ⟨by rfl, ?_⟩) hHeld ?_
      rotate_left
      · intro w hSw
        go_simp <;> with_reducible rfl
      try simp only [Act.put, List.setIfInBounds_toArray, List.set_cons_zero, List.set_cons_succ]
      refine takeAt 23 (some 36) ?_ rfl rfl (by kernel_rfl) (by kernel_rfl) (by kernel_rfl) (fun _ _ _ h => h) (Or.inl ⟨by rfl, ?_⟩) hHeld ?_
      rotate_left
      · intro w hSw
        go_simp <;> with_reducible rfl
      try simp only [Act.put, List.setIfInBounds_toArray, List.set_cons_zero, List.set_cons_succ]
      refine callAtG 24 37 90 (vals := #[.int .u8 100, .int .u8 (s[k]).toNat]) (by kernel_rfl) rfl rfl rfl (by rfl) (by simp [Act.eval]) Tryz.func90 (by kernel_rfl) (by kernel_rfl) ?_
      refine Calls.mono (HI'.out _) ?_
      rintro e w2 ⟨rfl, q⟩
      have H2 : Hid (Scn 50 (vn.v :: .string last :: .int .i64 r.g :: r.cl.map Value.bool) s k r.md r.cs rb w2 ∧ Kp wr w2) := ⟨HSc.out.kp q, kp_trans (kp_drew wr) q⟩
      clear q
      refine ⟨_, rfl, H2.out.1, fun hHeld => ?_⟩
      try simp only [Act.put, List.setIfInBounds_toArray, List.set_cons_zero, List.set_cons_succ]
      refine takeAt 25 (some 38) ?_ rfl rfl (by kernel_rfl) (by kernel_rfl) (by kernel_rfl) (fun _ _ _ h => h) (Or.inl ⟨by rfl, ?_⟩) hHeld ?_
      rotate_left
      · intro w hSw
        go_simp <;> with_reducible rfl
      try simp only [Act.put, List.setIfInBounds_toArray, List.set_cons_zero, List.set_cons_succ]
      refine wpAnyH_done (by kernel_rfl) ?_ _
      refine NoPanic.normal ?_
      have H3 : Hid (Rr B rb s last { r with k := k } vn w2 ∧ Adv rb vn w vn w2 ∧ TokBox w.heap.size ⟨kd, c, pl⟩ w2) := ⟨HS.out.1.kp H2.out.2, HS.out.2.1.trans (Adv.kp vn rb H2.out.2), HS.out.2.2.kp H2.out.2⟩
      have d0 : w2.cell? ⟨rb, 0, none⟩ = some (.string s) := H3.out.1.scn.c0
      have d1 : w2.cell? ⟨rb, 1, none⟩ = some (.int .i64 k) := H3.out.1.scn.c1
      have f1 : w2.frozen? ⟨rb, 1, none⟩ = false := H3.out.1.scn.fz 1
      clear HS HSc HI' H2 rl0 rl1
      cases y with
      | true =>
        have hdg : 48 ≤ (s[k]).toNat ∧ (s[k]).toNat ≤ 57 := by
          have := HY.out
          simp [digB, bt] at this; omega
        obtain ⟨D, hD⟩ : ∃ D, (s[k]).toNat - 48 = D := ⟨_, rfl⟩
        have hDi : ((s[k]).toNat : Int) - 48 = (D : Int) := by omega
        have hD9 : D ≤ 9 := by omega
        have hR2 := HG.out
        rw [HBy.out, HY.out, if_pos rfl, hD] at hR2
        have HR2 : Hid ((if 60 < 10 * n + D ∨ 3 < k + 1 - fr then none else numG s fr f (k + 1) (10 * n + D)) = R) := hR2
        have hb1 : 48 ≤ (s[k]).toNat := hdg.1
        have hb2 : (s[k]).toNat ≤ 57 := hdg.2
        have H4 : Hid (∀ q, Rr B rb s last { r with k := k + 1 } vn ((w2.drewN q).setCell ⟨rb, 1, none⟩ (.int .i64 ((k : Int) + 1))) ∧ Adv rb vn w vn ((w2.drewN q).setCell ⟨rb, 1, none⟩ (.int .i64 ((k : Int) + 1))) ∧ TokBox w.heap.size ⟨kd, c, pl⟩ ((w2.drewN q).setCell ⟨rb, 1, none⟩ (.int .i64 ((k : Int) + 1)))) := fun q => by
          have k1 := kp_drewN w2 q
          have a1 : Fr (On rb) (w2.drewN q) ((w2.drewN q).setCell ⟨rb, 1, none⟩ (.int .i64 ((k : Int) + 1))) := fr_set _ _ _ _
          exact ⟨Rr.step (H3.out.1.kp k1), (H3.out.2.1.trans (Adv.kp vn rb k1)).trans (Adv.on vn a1), (H3.out.2.2.kp k1).fr a1 hne⟩
        clear hdg hD hR2 HG HY HBy
        go_upto_region 4 with (go_quiet (fail))
        go_upto_region 5 with fail
        have H5 := H4.out nq
        obtain ⟨w3, hw3⟩ : ∃ w3, (w2.drewN nq).setCell ⟨rb, 1, none⟩ (.int .i64 ((k : Int) + 1)) = w3 := ⟨_, rfl⟩
        rw [hw3] at H5 ⊢
        have H6 : Hid _ := H5
        obtain ⟨⟨r0, r1, r2⟩, _⟩ := H6.out.2.2.cells
        have d1' : w3.cell? ⟨rb, 1, none⟩ = some (.int .i64 ((k : Int) + 1)) := H6.out.1.scn.c1
        clear hw3 H5 H4 H3 d0 d1 f1
        by_cases hA : 60 < 10 * n + D
        · have e1 : decide ((60 : Int) < 10 * (n : Int) + (D : Int)) = true := by simp; omega
          have hR3 := HR2.out
          rw [if_pos (.inl hA)] at hR3
          subst hR3
          clear HR2
          go_wp2_with fail
          exact ⟨rfl, rfl, HR.out.1.er H6.out.2.1⟩
        · have e1 : decide ((60 : Int) < 10 * (n : Int) + (D : Int)) = false := by simp; omega
          by_cases hB : 3 < k + 1 - fr
          · have e2 : decide ((3 : Int) < (k : Int) + 1 - (fr : Int)) = true := by simp; omega
            have hR3 := HR2.out
            rw [if_pos (.inr hB)] at hR3
            subst hR3
            clear HR2
            go_wp2_with fail
            exact ⟨rfl, rfl, HR.out.1.er H6.out.2.1⟩
          · have e2 : decide ((3 : Int) < (k : Int) + 1 - (fr : Int)) = false := by simp; omega
            have hR3 := HR2.out
            rw [if_neg (by omega)] at hR3
            have HR3 : Hid (numG s fr f (k + 1) (10 * n + D) = R ∧ ¬ 60 < 10 * n + D ∧ ¬ 3 < k + 1 - fr) := ⟨hR3, hA, hB⟩
            clear HR2 hR3
            go_wp2_with fail
            go_roundw
            case rel => exact ⟨k + 1, 10 * n + D, f, by go_num, by have := HR3.out.2.1; omega, by omega, by have := HR3.out.2.2; omega, by omega, by have := HF.out; omega, H6.out.1, H6.out.2.1, H6.out.2.2, HR3.out.1⟩
            case measure =>
              have e := H6.out.1.scn.atOf
              simp only at e
              rw [e, HAt.out]; omega
      | false =>
        have hR2 := HG.out
        rw [HBy.out, HY.out, if_neg (by simp)] at hR2
        subst hR2
        have H4 : Hid (∀ q, Rr B rb s last { r with k := k } vn (w2.drewN q) ∧ Adv rb vn w vn (w2.drewN q)) := fun q => ⟨H3.out.1.kp (kp_drewN w2 q), H3.out.2.1.trans (Adv.kp vn rb (kp_drewN w2 q))⟩
        have e3 : decide ((fr : Int) < (k : Int)) = decide (r.k < k) := by rw [HK.out]; simp
        have HE3 : Hid (decide ((fr : Int) < (k : Int)) = decide (r.k < k)) := e3
        clear HG HY HBy e3
        go_wp2_with fail
        go_quiet (fail)
        go_wp2_with fail
        go_ret2
        exact ⟨by rw [HK.out]; rfl, H4.out _⟩
    · have hd : decide ((k : Int) < (s.size : Int)) = false := by simp; omega
      rw [if_neg hlt] at hG
      subst hG
      have H4 : Hid (∀ q, Rr B rb s last { r with k := k } vn (wr.drewN q) ∧ Adv rb vn w vn (wr.drewN q)) := fun q => ⟨HS.out.1.kp (kp_drewN wr q), HS.out.2.1.trans (Adv.kp vn rb (kp_drewN wr q))⟩
      have e3 : decide ((fr : Int) < (k : Int)) = decide (r.k < k) := by rw [HK.out]; simp
      have HE3 : Hid (decide ((fr : Int) < (k : Int)) = decide (r.k < k)) := e3
      clear hO hA hT HS e3
      go_wp2_with fail
      go_quiet (fail)
      go_wp2_with fail
      go_quiet (fail)
      go_wp2_with fail
      go_ret2
      exact ⟨by rw [HK.out]; rfl, by rw [drew2]; exact H4.out _⟩
end
end Go.Proofs.YtpahpnajeliodaaGreatDoor
