/- The statements' helpers: Same, shaped. -/
import Derived.Test.YtfnhbjokokjhfabShape
namespace Go.Proofs.Ytfnhbjokokjhfab
open Go.ChangeShapes Go.WideShapes Go.ChangeAt Go.RowKit
set_option linter.unusedVariables false
theorem Told.lies {w w' : World} {v : Value} {ms : List ByteArray} (h : Told w v ms w') : Lies nobody w' v ms := by
  obtain ⟨hb, gb, e, ho⟩ := h
  subst e
  rcases ho.2 with ⟨e, _⟩ | ⟨b', cap, cur, e, _, hg, r1, r2, r3, r4⟩
  · cases e
  · cases e
    refine ⟨some ⟨gb, 0, none⟩, ms.length, rfl, r1, r2, .inr ⟨gb, 0, rfl, (Array.getElem?_eq_some_iff.1 hg).1, rfl, fun j y hj => ?_⟩⟩
    rw [Nat.zero_add]
    exact (row_cell hg r4 (cap := ms.length) (by simp [strs, hj])).1
theorem Lies.below {w w' : World} {v : Value} {ms : List ByteArray} {B : Nat} (h : Lies nobody w v ms) (hb : Below B w w') (hB : w.heap.size ≤ B) : Lies nobody w' v ms :=
  h.keeps ⟨hb.os, hb.tape, hb.output, hb.size, fun k hk _ => hb.block k (by omega), fun _ _ e => e⟩
theorem str_ne {x y : ByteArray} (h : x ≠ y) : (x.toList == y.toList) = false := by
  have : x.toList ≠ y.toList := fun e => by rw [ByteArray.toList_eq, ByteArray.toList_eq] at e; exact h (bytes_inj e)
  simpa using this
theorem same_any {w : World} {va vb : Value} {la lb : List ByteArray} (ha : Lies nobody w va la) (hb : Lies nobody w vb lb) (hl : la.length < 2 ^ 40) :
    Calls Try.prog 10 #[va, vb] w fun e w' => e = .returned (.bool (decide (la = lb))) ∧ ∃ q, w' = w.drewN q := by
  obtain ⟨a1, c1, rfl, x1, x2⟩ := ha.form
  obtain ⟨a2, c2, rfl, y1, y2⟩ := hb.form
  have HA : Hid (Lies nobody w (.slice a1 la.length c1) la) := ha
  have HB : Hid (Lies nobody w (.slice a2 lb.length c2) lb) := hb
  unfold maxLen at x2 y2
  obtain ⟨L, hL⟩ : ∃ L, la.length = L := ⟨_, rfl⟩
  obtain ⟨M, hM⟩ : ∃ M, lb.length = M := ⟨_, rfl⟩
  obtain ⟨R, hR⟩ : ∃ R, decide (la = lb) = R := ⟨_, rfl⟩
  have HR : Hid (decide (la = lb) = R ∧ la.length = L ∧ lb.length = M) := ⟨hR, hL, hM⟩
  rw [hR]
  rw [hL] at x1 HA hl ⊢
  rw [hM] at y1 HB ⊢
  clear ha hb hL hM hR
  by_cases hne : L = M
  · subst hne
    have hd0 : ((L : Int) != (L : Int)) = false := by simp
    go_enter Try.func10, Try.ntmps10
    go_wp2_with fail
    go_loopw [5] (fun vi wr => ∃ i : Nat, i ≤ L ∧ vi = .int .i64 i ∧ la.take i = lb.take i ∧ ∃ q, wr = w.drewN q) (fun vi _ => L - (intOf vi).toNat)
    case atStart => exact ⟨0, Nat.zero_le _, rfl, rfl, 0, rfl⟩
    case round =>
      obtain ⟨i, hi, rfl, heq, q, rfl⟩ := hrel
      by_cases hlt : i < L
      · have h1 : la[i]? = some (la[i]'(by have := HR.out.2.1; omega)) := List.getElem?_eq_getElem _
        have h2 : lb[i]? = some (lb[i]'(by have := HR.out.2.2; omega)) := List.getElem?_eq_getElem _
        generalize la[i]'(by have := HR.out.2.1; omega) = x at h1
        generalize lb[i]'(by have := HR.out.2.2; omega) = y at h2
        obtain ⟨b1, o1, rfl, e1⟩ := HA.out.cell h1
        obtain ⟨b2, o2, rfl, e2⟩ := HB.out.cell h2
        have hdl : decide ((i : Int) < (L : Int)) = true := by simp; omega
        by_cases hxy : x = y
        · subst hxy
          have HN : Hid (la.take (i + 1) = lb.take (i + 1)) := by
            obtain ⟨p1, q1⟩ := List.getElem?_eq_some_iff.1 h1
            obtain ⟨p2, q2⟩ := List.getElem?_eq_some_iff.1 h2
            show la.take (i + 1) = lb.take (i + 1)
            rw [List.take_succ_eq_append_getElem p1, List.take_succ_eq_append_getElem p2, q1, q2, heq]
          clear h1 h2 heq
          go_wp2_with fail
          go_quiet (fail)
          go_wp2_with fail
          go_roundw
          case rel => exact ⟨i + 1, by omega, by go_num, HN.out, _, rfl⟩
          case measure => simp [intOf]; omega
        · have HN : Hid (R = false) := by
            show R = false
            rw [← HR.out.1]
            have : la ≠ lb := fun e => hxy (by rw [e] at h1; rw [h1] at h2; cases h2; rfl)
            simp [this]
          have hxy2 := str_ne hxy
          clear h1 h2 heq
          go_wp2_with fail
          go_quiet (fail)
          go_wp2_with fail
          go_ret
          exact ⟨by rw [HN.out]; rfl, _, drew2 _ _ _⟩
      · obtain rfl : i = L := by omega
        have HN : Hid (R = true) := by
          show R = true
          rw [← HR.out.1]
          rw [← HR.out.2.1, List.take_length, HR.out.2.1, ← HR.out.2.2, List.take_length] at heq
          simp [heq]
        have hdl : decide ((i : Int) < (i : Int)) = false := by simp
        clear heq
        go_wp2_with fail
        go_ret
        exact ⟨by rw [HN.out]; rfl, _, rfl⟩
  · have HN : Hid (R = false) := by
      show R = false
      rw [← HR.out.1]
      have : la ≠ lb := fun e => hne (by rw [← HR.out.2.1, ← HR.out.2.2, e])
      simp [this]
    have hd0 : ((L : Int) != (M : Int)) = true := by simp; omega
    have hd1 : ¬ ((L : Int) = (M : Int)) := by omega
    go_enter Try.func10, Try.ntmps10
    go_wp2_with fail
    go_ret
    exact ⟨by rw [HN.out]; rfl, 0, rfl⟩
/-- The rows of numbers that 'v' has. -/
structure Grid (w : World) (ob cap : Nat) (wss : List (List Nat)) : Prop where
  le : wss.length ≤ cap
  mx : cap ≤ maxLen
  row : ∀ (k : Nat) ws, wss[k]? = some ws → ∃ a c, w.cell? ⟨ob, k, none⟩ = some (.slice a ws.length c) ∧ ws.length ≤ c ∧ c ≤ maxLen ∧ ∀ (i : Nat) x, ws[i]? = some x → ∃ ib, a = some ⟨ib, 0, none⟩ ∧ w.cell? ⟨ib, i, none⟩ = some (.int .i64 x)
theorem ShI.grid {p : Own} {w0 w : World} {v : Value} {wss : List (List Nat)} {svs : List Value} (h : ShI p w0 w v wss svs) (hp : 0 < wss.length) : ∃ ob cap, v = .slice (some ⟨ob, 0, none⟩) wss.length cap ∧ Grid w ob cap wss := by
  obtain ⟨ob, cap, cur, rfl, ho, hg, h1, h2, h3, h4⟩ := h.outer.shape hp
  refine ⟨ob, cap, rfl, h1, h2, fun k ws hk => ?_⟩
  obtain ⟨sv, e, r⟩ := h.inner k ws hk
  obtain ⟨a, c, rfl, r1, r2⟩ := r.form
  refine ⟨a, c, (row_cell hg h4 (cap := cap) e).1, r1, r2, fun i x hx => ?_⟩
  have hi := (List.getElem?_eq_some_iff.1 hx).1
  obtain ⟨ib, c', cur', e', _, hg', _, _, _, h4'⟩ := r.shape (by omega)
  injection e' with e1 e2 e3
  exact ⟨ib, e1, (row_cell hg' h4' (cap := c') (by simp [nums, hx])).1⟩
theorem sum_take_succ {ws : List Nat} {i x : Nat} (h : ws[i]? = some x) : (ws.take (i + 1)).sum = (ws.take i).sum + x := by
  obtain ⟨hj, e⟩ := List.getElem?_eq_some_iff.1 h
  rw [List.take_succ_eq_append_getElem hj, e]; simp
end Go.Proofs.Ytfnhbjokokjhfab
