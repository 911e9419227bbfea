/- The statements' bound heavy, and the start of both. -/
import Derived.Test.YtfnhbjokokjhfabDoes
namespace Go.Proofs.Ytfnhbjokokjhfab
open Go.ChangeShapes Go.WideShapes Go.ChangeAt Go.RowKit
set_option linter.unusedVariables false
theorem opAt_below {W W' : World} {b off : Nat} {p : OpD} (h : OpAt W b off p) (hb : Below W.heap.size W W') (hlt : b < W.heap.size) : OpAt W' b off p := by
  obtain ⟨h0, h1, h2, h3, h4⟩ := h
  refine ⟨?_, ?_, ?_, ?_, ?_⟩
  · simp only [World.cell?, hb.block b hlt] at h0 ⊢; exact h0
  · simp only [World.cell?, hb.block b hlt] at h1 ⊢; exact h1
  · simp only [World.cell?, hb.block b hlt] at h2 ⊢; exact h2
  · simp only [World.cell?, hb.block b hlt] at h3 ⊢; exact h3
  · simp only [World.cell?, hb.block b hlt] at h4 ⊢; exact h4
theorem OpsAt.cell {W : World} {a : Option Addr} {P cap j : Nat} {ps : List OpD} {p : OpD} (h : OpsAt W (.slice a P cap) ps) (hj : ps[j]? = some p) :
    ∃ b off, a = some ⟨b, off, none⟩ ∧ OpOk W p ∧ ∀ W', Below W.heap.size W W' → OpAt W' b (off + j * 5) p := by
  obtain ⟨a1, c1, e, _, _, q | ⟨b, off, rfl, hlt, hq⟩⟩ := h
  · rw [q] at hj; simp at hj
  · cases e
    exact ⟨b, off, rfl, (hq j p hj).2, fun W' hb => opAt_below (hq j p hj).1 hb hlt⟩
theorem heavy_big (W : World) (a a' : Option Addr) (L cap P cap' : Nat) (h : 300 < L ∨ 200 < P) :
    Calls Try.prog 4 #[.slice a L cap, .slice a' P cap'] W fun e w' => e = .returned (.bool true) ∧ ∃ q, w' = W.drewN q := by
  by_cases h3 : 300 < L
  · have hd : decide ((300 : Int) < (L : Int)) = true := by simp; omega
    go_enter Try.func4, Try.ntmps4
    go_wp2_with fail
    go_ret
    exact ⟨rfl, 0, rfl⟩
  · have hd : decide ((300 : Int) < (L : Int)) = false := by simp; omega
    have hd2 : decide ((200 : Int) < (P : Int)) = true := by simp; omega
    go_enter Try.func4, Try.ntmps4
    go_wp2_with fail
    go_ret
    exact ⟨rfl, 0, rfl⟩
set_option maxHeartbeats 4000000 in
theorem heavy_any (W : World) (a a' : Option Addr) (L cap P cap' : Nat) (ps : List OpD) (hP : ps.length = P) (ho : OpsAt W (.slice a' P cap') ps) (h : L ≤ 300) (h' : P ≤ 200) :
    Calls Try.prog 4 #[.slice a L cap, .slice a' P cap'] W fun e w' => e = .returned (.bool (ps.any fun p => decide (50 < p.l.length))) ∧ ∃ q, w' = W.drewN q := by
  have hd : decide ((300 : Int) < (L : Int)) = false := by simp; omega
  have hd2 : decide ((200 : Int) < (P : Int)) = false := by simp; omega
  obtain ⟨A, hA⟩ : ∃ A, (ps.any fun p => decide (50 < p.l.length)) = A := ⟨_, rfl⟩
  rw [hA]
  have HA : Hid ((ps.any fun p => decide (50 < p.l.length)) = A ∧ ps.length = P ∧ OpsAt W (.slice a' P cap') ps) := ⟨hA, hP, ho⟩
  clear hA hP ho
  go_enter Try.func4, Try.ntmps4
  go_wp2_with fail
  go_loopw [5] (fun vi wr => ∃ (i q : Nat), i ≤ P ∧ vi = .int .i64 i ∧ wr = W.drewN q ∧ ∀ (j : Nat) p, j < i → ps[j]? = some p → p.l.length ≤ 50) (fun vi _ => P - (intOf vi).toNat)
  case atStart => exact ⟨0, 0, Nat.zero_le _, rfl, rfl, fun j p hj => by omega⟩
  case round =>
    obtain ⟨i, q, hi, rfl, rfl, hall⟩ := hrel
    have HAll : Hid (∀ (j : Nat) p, j < i → ps[j]? = some p → p.l.length ≤ 50) := hall
    clear hall
    by_cases hlt : i < P
    · have hd3 : decide ((i : Int) < (P : Int)) = true := by simp; omega
      have hx : ps[i]? = some (ps[i]'(by rw [HA.out.2.1]; exact hlt)) := List.getElem?_eq_getElem _
      generalize ps[i]'(by rw [HA.out.2.1]; exact hlt) = p at hx
      obtain ⟨b, off, rfl, hok, hc⟩ := HA.out.2.2.cell hx
      have c4 := (hc _ (below_drewN W q)).2.2.2.2
      obtain ⟨a1, cp1, e1, _⟩ := hok.l.form
      rw [e1] at c4
      obtain ⟨M, hM⟩ : ∃ M, p.l.length = M := ⟨_, rfl⟩
      rw [hM] at c4
      have HX : Hid (ps[i]? = some p ∧ p.l.length = M) := ⟨hx, hM⟩
      clear hx hc hok e1 hM
      by_cases hm : 50 < M
      · have hd4 : decide ((50 : Int) < (M : Int)) = true := by simp; omega
        go_wp2_with fail
        go_ret
        refine ⟨?_, q, rfl⟩
        have : A = true := by
          rw [← HA.out.1, List.any_eq_true]
          exact ⟨p, List.mem_of_getElem? HX.out.1, by simp; have := HX.out.2; omega⟩
        rw [this]; rfl
      · have hd4 : decide ((50 : Int) < (M : Int)) = false := by simp; omega
        go_wp2_with fail
        go_roundw
        case rel =>
          refine ⟨i + 1, q, by omega, by go_num, rfl, fun j p' hj hp' => ?_⟩
          by_cases hji : j < i
          · exact HAll.out j p' hji hp'
          · obtain rfl : j = i := by omega
            rw [HX.out.1] at hp'; cases hp'
            have := HX.out.2; omega
        case measure => simp [intOf]; omega
    · obtain rfl : i = P := by omega
      have hd3 : decide ((i : Int) < (i : Int)) = false := by simp
      go_wp2_with fail
      go_ret
      refine ⟨?_, q, rfl⟩
      have : A = false := by
        rw [← HA.out.1, List.any_eq_false]
        intro p hp
        obtain ⟨j, hj⟩ := List.getElem?_of_mem hp
        have := HAll.out j p (by have := (List.getElem?_eq_some_iff.1 hj).1; have := HA.out.2.1; omega) hj
        simp; omega
      rw [this]; rfl
theorem strs_formn {H : Type} {enc : TypeId × Value → H} {W : World} {base : Nat} {v : Value} {d : DataW H} {p : List MemPlace} (hval : Value.okWide Try.prog W .any base 22 v) (h : DataW.Trod enc Try.prog W 0 (fun _ => true) true 22 v d p) :
    ∃ ms, (Lies nobody W v ms ∧ ∀ n c, v = .slice none n c → n = 0 ∧ c = 0) ∧ ((∀ n ∈ d.weights Try.prog 22, n ≤ reachBytes) → ∀ y ∈ ms, y.size ≤ reachBytes) := by
  obtain ⟨ms, h1, h2⟩ := strs_form hval h
  refine ⟨ms, ⟨h1, ?_⟩, h2⟩
  obtain ⟨a0, len, cap, rfl⟩ := okWide_slice under22 hval
  obtain ⟨fuel, hf⟩ := h
  have g4' : DataW.trod enc Try.prog W 0 (fun _ => true) true fuel 22 [.slice a0 len cap] = some (d, p) := hf
  rcases Deep.open_strs under22 under9 cells9 g4' with ⟨hcs, _⟩ | ⟨a, len, cap, m, Sx, hcs, _⟩
  · intro n c e
    simp at hcs
    obtain ⟨rfl, rfl, rfl⟩ := hcs
    cases e; exact ⟨rfl, rfl⟩
  · intro n c e
    simp at hcs
    obtain ⟨rfl, rfl, rfl⟩ := hcs
    cases e
theorem two_new {B : Nat} {W w0 w1 w2 : World} {t r m : Nat} {ls : List ByteArray} (hb : Below B W w0) (hle : B ≤ W.heap.size) (h1 : After nobody w0 t ls m w1) (hr : r = w1.heap.size) (h2 : Below w1.heap.size w1 w2) (h3 : ∀ o, (∀ k, o k ≠ .free → k < w1.heap.size) → Rf o w2 r ls) : Two B W w2 t r ls ls m [] := by
  have l0 := Nat.le_trans hle hb.size
  obtain ⟨oa, a1, a2⟩ := h1
  obtain ⟨x1, x2⟩ := (old_nobody (B := B)).keeps a2 l0
  have l1 : B ≤ w1.heap.size := Nat.le_trans l0 x2.size
  refine ⟨⟨oa, a1.below h2, x1, h3 oa fun k hk => ?_, fun x hx => by cases hx⟩, (hb.trans x2).trans (below_mono h2 l1), hle, by omega⟩
  exact Nat.lt_of_not_le fun q => hk (a1.new q)
theorem two_lies {B : Nat} {W wr : World} {t r m : Nat} {lt ls : List ByteArray} {bx : List (Nat × Obj)} (h : Two B W wr t r lt ls m bx) : ∃ lv, wr.cell? ⟨r, 0, none⟩ = some lv ∧ Lies nobody wr lv ls := by
  obtain ⟨o, _, _, h3, _⟩ := h.ex
  obtain ⟨lv, q1, q2⟩ := h3.ex
  exact ⟨lv, by simp [World.cell?, q1], q2.lies⟩
section
variable {B : Nat} {W wr : World} {t r m : Nat} {ls : List ByteArray} {bx : List (Nat × Obj)}
theorem Two.len (h : Two B W wr t r ls ls m bx) : Calls Try.prog 13 #[.pointer (some ⟨t, 0, none⟩)] wr fun e w' => e = .returned (.int .i64 ls.length) ∧ Two B W w' t r ls ls m bx := by
  obtain ⟨o, h1, _⟩ := h.ex
  refine h1.len.mono ?_
  rintro e w' ⟨rfl, q, rfl⟩
  exact ⟨rfl, h.drewN q⟩
theorem Two.rlen (h : Two B W wr t r ls ls m bx) : Calls Try.prog 24 #[.pointer (some ⟨r, 0, none⟩)] wr fun e w' => e = .returned (.int .i64 ls.length) ∧ Two B W w' t r ls ls m bx := by
  obtain ⟨o, _, _, h3, _⟩ := h.ex
  refine (rlen_any h3).mono ?_
  rintro e w' ⟨rfl, rfl⟩
  exact ⟨rfl, h⟩
theorem Two.lines (h : Two B W wr t r ls ls m bx) (hl : ls.length < 2 ^ 38) : Calls Try.prog 7 #[.pointer (some ⟨t, 0, none⟩)] wr fun e w' => ∃ gb, e = .returned (.slice (some ⟨gb, 0, none⟩) ls.length ls.length) ∧ Lies nobody w' (.slice (some ⟨gb, 0, none⟩) ls.length ls.length) ls ∧ Below wr.heap.size wr w' := by
  obtain ⟨o, h1, _⟩ := h.ex
  refine (lines_any h1 hl).mono ?_
  rintro e w' ⟨v, rfl, hT⟩
  have hL := hT.lies
  obtain ⟨gb, e, _⟩ := hT.2
  subst e
  exact ⟨gb, rfl, hL, hT.1⟩
theorem Two.shape (h : Two B W wr t r ls ls m bx) (hl : ls.length < 2 ^ 30) : Calls Try.prog 11 #[.pointer (some ⟨t, 0, none⟩)] wr fun e w' => ∃ v, e = .returned v ∧ Shaped wr ls.length v w' ∧ Two B W w' t r ls ls m bx := by
  obtain ⟨o, h1, _⟩ := h.ex
  refine (shape_any h1 hl).mono ?_
  rintro e w' ⟨v, rfl, hS⟩
  exact ⟨v, rfl, hS, h.under hS.below⟩
/-- Both, and the list's own slice. -/
structure TwoL (B : Nat) (W : World) (t r : Nat) (ls : List ByteArray) (m : Nat) (lv : Value) (wr : World) : Prop where
  two : Two B W wr t r ls ls m []
  cell : wr.cell? ⟨r, 0, none⟩ = some lv
  lies : Lies nobody wr lv ls
  lt : r < wr.heap.size
variable {lv : Value} {w' : World}
theorem Two.withL (h : Two B W wr t r ls ls m []) : ∃ a cap, TwoL B W t r ls m (.slice a ls.length cap) wr := by
  obtain ⟨lv, h1, h2⟩ := two_lies h
  obtain ⟨a, cap, e, _⟩ := h2.form
  subst e
  exact ⟨a, cap, h, h1, h2, World.block_lt_of_cell? _ _ h1⟩
theorem TwoL.under (h : TwoL B W t r ls m lv wr) (hb : Below wr.heap.size wr w') : TwoL B W t r ls m lv w' :=
  ⟨h.two.under hb, by have := h.cell; simp only [World.cell?, hb.block r h.lt] at this ⊢; exact this, h.lies.below hb (Nat.le_refl _), Nat.lt_of_lt_of_le h.lt hb.size⟩
theorem TwoL.len (h : TwoL B W t r ls m lv wr) : Calls Try.prog 13 #[.pointer (some ⟨t, 0, none⟩)] wr fun e w' => e = .returned (.int .i64 ls.length) ∧ TwoL B W t r ls m lv w' := by
  obtain ⟨o, h1, _⟩ := h.two.ex
  refine h1.len.mono ?_
  rintro e w' ⟨rfl, q, rfl⟩
  exact ⟨rfl, h.under (below_drewN _ _)⟩
theorem TwoL.rlen (h : TwoL B W t r ls m lv wr) : Calls Try.prog 24 #[.pointer (some ⟨r, 0, none⟩)] wr fun e w' => e = .returned (.int .i64 ls.length) ∧ TwoL B W t r ls m lv w' := by
  obtain ⟨o, _, _, h3, _⟩ := h.two.ex
  refine (rlen_any h3).mono ?_
  rintro e w' ⟨rfl, rfl⟩
  exact ⟨rfl, h⟩
theorem TwoL.lines (h : TwoL B W t r ls m lv wr) (hl : ls.length < 2 ^ 38) : Calls Try.prog 7 #[.pointer (some ⟨t, 0, none⟩)] wr fun e w' => ∃ gb, e = .returned (.slice (some ⟨gb, 0, none⟩) ls.length ls.length) ∧ Lies nobody w' (.slice (some ⟨gb, 0, none⟩) ls.length ls.length) ls ∧ TwoL B W t r ls m lv w' := by
  refine (h.two.lines hl).mono ?_
  rintro e w' ⟨gb, rfl, h1, h2⟩
  exact ⟨gb, rfl, h1, h.under h2⟩
end
end Go.Proofs.Ytfnhbjokokjhfab
