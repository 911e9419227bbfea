/- The statements' helpers: Same, shaped. -/
import Derived.Test.YtfnhbjokokjhfaaShape
namespace Go.Proofs.Ytfnhbjokokjhfaa
open Go.ChangeShapes Go.WideShapes Go.ChangeAt Go.RowKit
set_option linter.unusedVariables false
theorem Told.lies {w w' : World} {v : Value} {ms : List ByteArray} (h : Told w v ms w') : Lies nobody w' v ms := by
  obtain ⟨hb, gb, e, ho⟩ := h
  subst e
  rcases ho.2 with ⟨e, _⟩ | ⟨b', cap, cur, e, _, hg, r1, r2, r3, r4⟩
  · cases e
  · cases e
    refine ⟨some ⟨gb, 0, none⟩, ms.length, rfl, r1, r2, .inr ⟨gb, 0, rfl, (Array.getElem?_eq_some_iff.1 hg).1, rfl, fun j y hj => ?_⟩⟩
    rw [Nat.zero_add]
    exact (row_cell hg r4 (cap := ms.length) (by simp [strs, hj])).1
theorem Lies.below {w w' : World} {v : Value} {ms : List ByteArray} {B : Nat} (h : Lies nobody w v ms) (hb : Below B w w') (hB : w.heap.size ≤ B) : Lies nobody w' v ms :=
  h.keeps ⟨hb.os, hb.tape, hb.output, hb.size, fun k hk _ => hb.block k (by omega), fun _ _ e => e⟩
theorem str_ne {x y : ByteArray} (h : x ≠ y) : (x.toList == y.toList) = false := by
  have : x.toList ≠ y.toList := fun e => by rw [ByteArray.toList_eq, ByteArray.toList_eq] at e; exact h (bytes_inj e)
  simpa using this
theorem same_any {w : World} {va vb : Value} {la lb : List ByteArray} (ha : Lies nobody w va la) (hb : Lies nobody w vb lb) (hl : la.length < 2 ^ 40) :
    Calls Try.prog 12 #[va, vb] w fun e w' => e = .returned (.bool (decide (la = lb))) ∧ ∃ q, w' = w.drewN q := by
  obtain ⟨a1, c1, rfl, x1, x2⟩ := ha.form
  obtain ⟨a2, c2, rfl, y1, y2⟩ := hb.form
  have HA : Hid (Lies nobody w (.slice a1 la.length c1) la) := ha
  have HB : Hid (Lies nobody w (.slice a2 lb.length c2) lb) := hb
  unfold maxLen at x2 y2
  obtain ⟨L, hL⟩ : ∃ L, la.length = L := ⟨_, rfl⟩
  obtain ⟨M, hM⟩ : ∃ M, lb.length = M := ⟨_, rfl⟩
  obtain ⟨R, hR⟩ : ∃ R, decide (la = lb) = R := ⟨_, rfl⟩
  have HR : Hid (decide (la = lb) = R ∧ la.length = L ∧ lb.length = M) := ⟨hR, hL, hM⟩
  rw [hR]
  rw [hL] at x1 HA hl ⊢
  rw [hM] at y1 HB ⊢
  clear ha hb hL hM hR
  by_cases hne : L = M
  · subst hne
    have hd0 : ((L : Int) != (L : Int)) = false := by simp
    go_enter Try.func12, Try.ntmps12
    go_wp2_with fail
    go_loopw [5] (fun vi wr => ∃ i : Nat, i ≤ L ∧ vi = .int .i64 i ∧ la.take i = lb.take i ∧ ∃ q, wr = w.drewN q) (fun vi _ => L - (intOf vi).toNat)
    case atStart => exact ⟨0, Nat.zero_le _, rfl, rfl, 0, rfl⟩
    case round =>
      obtain ⟨i, hi, rfl, heq, q, rfl⟩ := hrel
      by_cases hlt : i < L
      · have h1 : la[i]? = some (la[i]'(by have := HR.out.2.1; omega)) := List.getElem?_eq_getElem _
        have h2 : lb[i]? = some (lb[i]'(by have := HR.out.2.2; omega)) := List.getElem?_eq_getElem _
        generalize la[i]'(by have := HR.out.2.1; omega) = x at h1
        generalize lb[i]'(by have := HR.out.2.2; omega) = y at h2
        obtain ⟨b1, o1, rfl, e1⟩ := HA.out.cell h1
        obtain ⟨b2, o2, rfl, e2⟩ := HB.out.cell h2
        have hdl : decide ((i : Int) < (L : Int)) = true := by simp; omega
        by_cases hxy : x = y
        · subst hxy
          have HN : Hid (la.take (i + 1) = lb.take (i + 1)) := by
            obtain ⟨p1, q1⟩ := List.getElem?_eq_some_iff.1 h1
            obtain ⟨p2, q2⟩ := List.getElem?_eq_some_iff.1 h2
            show la.take (i + 1) = lb.take (i + 1)
            rw [List.take_succ_eq_append_getElem p1, List.take_succ_eq_append_getElem p2, q1, q2, heq]
          clear h1 h2 heq
          go_wp2_with fail
          go_quiet (fail)
          go_wp2_with fail
          go_roundw
          case rel => exact ⟨i + 1, by omega, by go_num, HN.out, _, rfl⟩
          case measure => simp [intOf]; omega
        · have HN : Hid (R = false) := by
            show R = false
            rw [← HR.out.1]
            have : la ≠ lb := fun e => hxy (by rw [e] at h1; rw [h1] at h2; cases h2; rfl)
            simp [this]
          have hxy2 := str_ne hxy
          clear h1 h2 heq
          go_wp2_with fail
          go_quiet (fail)
          go_wp2_with fail
          go_ret
          exact ⟨by rw [HN.out]; rfl, _, drew2 _ _ _⟩
      · obtain rfl : i = L := by omega
        have HN : Hid (R = true) := by
          show R = true
          rw [← HR.out.1]
          rw [← HR.out.2.1, List.take_length, HR.out.2.1, ← HR.out.2.2, List.take_length] at heq
          simp [heq]
        have hdl : decide ((i : Int) < (i : Int)) = false := by simp
        clear heq
        go_wp2_with fail
        go_ret
        exact ⟨by rw [HN.out]; rfl, _, rfl⟩
  · have HN : Hid (R = false) := by
      show R = false
      rw [← HR.out.1]
      have : la ≠ lb := fun e => hne (by rw [← HR.out.2.1, ← HR.out.2.2, e])
      simp [this]
    have hd0 : ((L : Int) != (M : Int)) = true := by simp; omega
    have hd1 : ¬ ((L : Int) = (M : Int)) := by omega
    go_enter Try.func12, Try.ntmps12
    go_wp2_with fail
    go_ret
    exact ⟨by rw [HN.out]; rfl, 0, rfl⟩
/-- The rows of numbers that 'v' has. -/
structure Grid (w : World) (ob cap : Nat) (wss : List (List Nat)) : Prop where
  le : wss.length ≤ cap
  mx : cap ≤ maxLen
  row : ∀ (k : Nat) ws, wss[k]? = some ws → ∃ a c, w.cell? ⟨ob, k, none⟩ = some (.slice a ws.length c) ∧ ws.length ≤ c ∧ c ≤ maxLen ∧ ∀ (i : Nat) x, ws[i]? = some x → ∃ ib, a = some ⟨ib, 0, none⟩ ∧ w.cell? ⟨ib, i, none⟩ = some (.int .i64 x)
theorem ShI.grid {p : Own} {w0 w : World} {v : Value} {wss : List (List Nat)} {svs : List Value} (h : ShI p w0 w v wss svs) (hp : 0 < wss.length) : ∃ ob cap, v = .slice (some ⟨ob, 0, none⟩) wss.length cap ∧ Grid w ob cap wss := by
  obtain ⟨ob, cap, cur, rfl, ho, hg, h1, h2, h3, h4⟩ := h.outer.shape hp
  refine ⟨ob, cap, rfl, h1, h2, fun k ws hk => ?_⟩
  obtain ⟨sv, e, r⟩ := h.inner k ws hk
  obtain ⟨a, c, rfl, r1, r2⟩ := r.form
  refine ⟨a, c, (row_cell hg h4 (cap := cap) e).1, r1, r2, fun i x hx => ?_⟩
  have hi := (List.getElem?_eq_some_iff.1 hx).1
  obtain ⟨ib, c', cur', e', _, hg', _, _, _, h4'⟩ := r.shape (by omega)
  injection e' with e1 e2 e3
  exact ⟨ib, e1, (row_cell hg' h4' (cap := c') (by simp [nums, hx])).1⟩
theorem sum_take_succ {ws : List Nat} {i x : Nat} (h : ws[i]? = some x) : (ws.take (i + 1)).sum = (ws.take i).sum + x := by
  obtain ⟨hj, e⟩ := List.getElem?_eq_some_iff.1 h
  rw [List.take_succ_eq_append_getElem hj, e]; simp
set_option maxRecDepth 100000 in
set_option maxHeartbeats 2000000 in
theorem shaped_any {w : World} {ob cap n : Nat} {wss : List (List Nat)} (hG : Grid w ob cap wss) (hS : Shp wss n) (hl : wss.length < 1000) (hl2 : ∀ (k : Nat) ws, wss[k]? = some ws → ws.length < 2 ^ 32) (hn : n < 2 ^ 40) :
    Calls Try.prog 15 #[.slice (some ⟨ob, 0, none⟩) wss.length cap, .int .i64 n] w fun e w' => e = .returned (.bool true) ∧ ∃ q, w' = w.drewN q := by
  have HG : Hid (Grid w ob cap wss) := hG
  have HS : Hid (Shp wss n ∧ ∀ (k : Nat) ws, wss[k]? = some ws → ws.length < 2 ^ 32) := ⟨hS, hl2⟩
  have hle := hG.le; have hmx := hG.mx
  obtain ⟨x0, hx0⟩ := hS.one
  obtain ⟨a0, c0, e0, _, _, _⟩ := hG.row 0 _ hx0
  have e0' : w.cell? ⟨ob, 0, none⟩ = some (.slice a0 1 c0) := e0
  have hK0 := (List.getElem?_eq_some_iff.1 hx0).1
  obtain ⟨K, hK⟩ : ∃ K, wss.length = K := ⟨_, rfl⟩
  have HK : Hid (wss.length = K) := hK
  rw [hK] at hle hl hK0 ⊢
  unfold maxLen at hmx
  have hdK : ((K : Int) == 0) = false := by simp; omega
  clear hG hS hl2 hx0 e0 hK
  go_enter Try.func15, Try.ntmps15
  go_wp2_with fail
  clear e0'
  go_loopw [5] (fun vk wr => ∃ k : Nat, k ≤ K ∧ vk = .int .i64 k ∧ ∃ q, wr = w.drewN q) (fun vk _ => K - (intOf vk).toNat)
  case atStart => exact ⟨0, Nat.zero_le _, rfl, 0, rfl⟩
  case round =>
    obtain ⟨k, hk, rfl, q, rfl⟩ := hrel
    by_cases hlt : k < K
    · have hws : wss[k]? = some (wss[k]'(by rw [HK.out]; exact hlt)) := List.getElem?_eq_getElem _
      generalize wss[k]'(by rw [HK.out]; exact hlt) = ws at hws
      obtain ⟨a, c, ek, hc1, hc2, hcell⟩ := HG.out.row k ws hws
      have HC : Hid (∀ (i : Nat) x, ws[i]? = some x → ∃ ib, a = some ⟨ib, 0, none⟩ ∧ w.cell? ⟨ib, i, none⟩ = some (.int .i64 x)) := hcell
      obtain ⟨L, hL⟩ : ∃ L, ws.length = L := ⟨_, rfl⟩
      have HL : Hid (ws.length = L ∧ wss[k]? = some ws) := ⟨hL, hws⟩
      have hL32 : L < 2 ^ 32 := by rw [← hL]; exact HS.out.2 k ws hws
      rw [hL] at ek hc1
      unfold maxLen at hc2
      have hd1 : decide ((k : Int) < (K : Int)) = true := by simp; omega
      clear hws hcell hL
      go_wp2_with fail
      go_loopw [6, 7] (fun vs vi wr => ∃ i : Nat, i ≤ L ∧ vi = .int .i64 i ∧ vs = .int .i64 ((ws.take i).sum : Nat) ∧ (ws.take i).sum ≤ 8 * i ∧ ∃ q, wr = w.drewN q) (fun _ vi _ => L - (intOf vi).toNat)
      case atStart => exact ⟨0, Nat.zero_le _, rfl, rfl, by simp, _, rfl⟩
      case round =>
        obtain ⟨i, hi, rfl, rfl, hsum, q2, rfl⟩ := hrel
        by_cases hil : i < L
        · have hx : ws[i]? = some (ws[i]'(by rw [HL.out.1]; exact hil)) := List.getElem?_eq_getElem _
          generalize ws[i]'(by rw [HL.out.1]; exact hil) = x at hx
          obtain ⟨ib, rfl, ex⟩ := HC.out i x hx
          obtain ⟨w1, w2, w3⟩ := HS.out.1.wid k ws HL.out.2 x (List.mem_of_getElem? hx)
          have HX8 : Hid (x ≤ 8) := w1
          have HT : Hid ((ws.take (i + 1)).sum = (ws.take i).sum + x) := sum_take_succ hx
          rw [HK.out] at w3
          have hd2 : decide ((i : Int) < (L : Int)) = true := by simp; omega
          have hd3 : decide ((8 : Int) < (x : Int)) = false := by simp; omega
          have hwr : IntKind.i64.wrap (((ws.take i).sum : Int) + (x : Int)) = ((ws.take i).sum : Int) + (x : Int) := by rw [IntKind.wrap_i64]; omega
          clear hx
          generalize (ws.take i).sum = S at *
          by_cases hk0 : k = 0
          · have hd4 : decide ((0 : Int) < (k : Int)) = false := by simp; omega
            have hd4n : ¬ (0 < k) := by omega
            have hd7 : ((k : Int) == 0) = true := by simp; omega
            have w3 := w3 hk0
            have HK0 : Hid (k = 0) := hk0
            clear hk0
            by_cases h1K : 1 < K
            · have hd6 : decide ((x : Int) < 2) = false := by have := w3 h1K; simp; omega
              have hd5 : decide ((k : Int) + 1 < (K : Int)) = true := by have := HK0.out; simp; omega
              clear w1 w2 w3
              go_wp2_with fail
              go_roundw
              case rel => exact ⟨i + 1, by omega, by go_num, by rw [HT.out]; go_num, by rw [HT.out]; have := HX8.out; omega, _, rfl⟩
              case measure => simp [intOf]; omega
            · have hd5 : decide ((k : Int) + 1 < (K : Int)) = false := by have := HK0.out; simp; omega
              clear w1 w2 w3
              go_wp2_with fail
              go_roundw
              case rel => exact ⟨i + 1, by omega, by go_num, by rw [HT.out]; go_num, by rw [HT.out]; have := HX8.out; omega, _, rfl⟩
              case measure => simp [intOf]; omega
          · have hd4 : decide ((0 : Int) < (k : Int)) = true := by simp; omega
            have hd6 : decide ((x : Int) < 4) = false := by have := w2 (by omega); simp; omega
            have hd7 : ((k : Int) == 0) = false := by simp; omega
            clear w1 w2 w3
            go_wp2_with fail
            go_roundw
            case rel => exact ⟨i + 1, by omega, by go_num, by rw [HT.out]; go_num, by rw [HT.out]; have := HX8.out; omega, _, rfl⟩
            case measure => simp [intOf]; omega
        · obtain rfl : i = L := by omega
          have e1 : ws.take i = ws := by rw [← HL.out.1]; exact List.take_length
          rw [e1] at hsum ⊢
          have hd2 : decide ((i : Int) < (i : Int)) = false := by simp
          by_cases hk1 : k + 1 < K
          · have hws' : wss[k + 1]? = some (wss[k + 1]'(by rw [HK.out]; exact hk1)) := List.getElem?_eq_getElem _
            generalize wss[k + 1]'(by rw [HK.out]; exact hk1) = ws' at hws'
            obtain ⟨a', c', ek', _, _, _⟩ := HG.out.row (k + 1) ws' hws'
            have hnx := HS.out.1.next k ws ws' HL.out.2 hws'
            rw [← hnx] at ek'
            have hd8 : decide ((k : Int) + 1 < (K : Int)) = true := by simp; omega
            have hd9 : ((k : Int) + 1 == (K : Int)) = false := by simp; omega
            clear hws' hnx e1
            generalize ws.sum = S at *
            go_wp2_with fail
            go_roundw
            case rel => exact ⟨k + 1, by omega, by go_num, _, rfl⟩
            case measure => simp [intOf]; omega
          · have HKe : Hid (k + 1 = K) := by show k + 1 = K; omega
            have hlast := HS.out.1.last ws (by rw [HK.out, ← HKe.out, Nat.add_sub_cancel]; exact HL.out.2)
            rw [hlast]
            have hd8 : decide ((k : Int) + 1 < (K : Int)) = false := by simp; omega
            have hd9 : ((k : Int) + 1 == (K : Int)) = true := by simp; omega
            clear hlast e1
            go_wp2_with fail
            go_roundw
            case rel => exact ⟨k + 1, by omega, by go_num, _, rfl⟩
            case measure => simp [intOf]; omega
    · obtain rfl : k = K := by omega
      have hd1 : decide ((k : Int) < (k : Int)) = false := by simp
      go_wp2_with fail
      go_ret
      exact ⟨rfl, _, rfl⟩
end Go.Proofs.Ytfnhbjokokjhfaa
