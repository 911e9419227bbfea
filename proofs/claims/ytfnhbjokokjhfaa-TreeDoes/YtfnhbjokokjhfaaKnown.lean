/- The statements' helper known. -/
import Derived.Test.YtfnhbjokokjhfaaSame
namespace Go.Proofs.Ytfnhbjokokjhfaa
open Go.ChangeShapes Go.WideShapes Go.ChangeAt Go.RowKit
theorem Tr.below {o : Own} {w w' : World} {t m : Nat} {ls : List ByteArray} (h : Tr o w t ls m) (hb : Below w.heap.size w w') : Tr o w' t ls m := by
  obtain ⟨s, vn, vg, d, h1, h2, h3⟩ := h
  exact ⟨s, vn, vg, d, h1.below hb, h2, h3⟩
theorem After.below {w w' : World} {t m : Nat} {ls : List ByteArray} (h : After nobody w t ls m w') : Below w.heap.size w w' := by
  obtain ⟨o, _, k⟩ := h
  exact k.below (Nat.le_refl _) (fun _ _ => rfl)
theorem Shaped.below {w w' : World} {n : Nat} {v : Value} (h : Shaped w n v w') : Below w.heap.size w w' := by
  obtain ⟨p, wss, svs, h1, _⟩ := h
  exact h1.keeps.below (Nat.le_refl _) (fun _ _ => rfl)
theorem below_mono {a b : Nat} {w w' : World} (h : Below b w w') (hab : a ≤ b) : Below a w w' := ⟨h.os, h.tape, h.output, h.size, fun k hk => h.block k (by omega)⟩
theorem below_then {w w1 w2 : World} (h1 : Below w.heap.size w w1) (h2 : Below w1.heap.size w1 w2) : Below w.heap.size w w2 := h1.trans (below_mono h2 h1.size)
theorem Shp.len {wss : List (List Nat)} {n : Nat} (h : Shp wss n) (hn : n < 2 ^ 30) : 0 < wss.length ∧ wss.length < 100 := by
  obtain ⟨x, hx⟩ := h.one
  have h1 := (List.getElem?_eq_some_iff.1 hx).1
  refine ⟨h1, ?_⟩
  by_cases h2 : wss.length < 100
  · exact h2
  · have h3 := h.deep (by omega)
    have h5 : 4 ^ 50 ≤ 4 ^ (wss.length - 1) := Nat.pow_le_pow_right (by omega) (by omega)
    have : (4 : Nat) ^ 50 = 2 ^ 100 := by decide
    omega
theorem sum_ge (m : Nat) : ∀ (l : List Nat), (∀ x ∈ l, m ≤ x) → m * l.length ≤ l.sum
  | [], _ => by simp
  | a :: r, h => by
    have h1 := sum_ge m r fun x hx => h x (by simp [hx])
    have h2 := h a (by simp)
    simp only [List.length_cons, List.sum_cons, Nat.mul_add]; omega
theorem Shp.lens {wss : List (List Nat)} {n : Nat} (h : Shp wss n) (hn : n < 2 ^ 30) : ∀ (k : Nat) ws, wss[k]? = some ws → ws.length < 2 ^ 32 := by
  have key : ∀ (j k : Nat) ws, k + j + 1 = wss.length → wss[k]? = some ws → ws.length ≤ n + 1 ∧ ws.sum ≤ n + 1 := by
    intro j
    induction j with
    | zero =>
      intro k ws hk hw
      have hs := h.last ws (by rw [← hk]; simpa using hw)
      refine ⟨?_, by omega⟩
      rcases Nat.eq_zero_or_pos k with e | e
      · subst e
        obtain ⟨x, hx⟩ := h.one
        rw [hx] at hw; cases hw; simp
      · have := sum_ge 4 ws fun x hx => (h.wid k ws hw x hx).2.1 e
        omega
    | succ j ih =>
      intro k ws hk hw
      have hlt : k + 1 < wss.length := by omega
      have hw' : wss[k + 1]? = some wss[k + 1] := List.getElem?_eq_getElem hlt
      obtain ⟨h1, h2⟩ := ih (k + 1) _ (by omega) hw'
      have hs := h.next k ws _ hw hw'
      refine ⟨?_, by omega⟩
      rcases Nat.eq_zero_or_pos k with e | e
      · subst e
        obtain ⟨x, hx⟩ := h.one
        rw [hx] at hw; cases hw; simp
      · have := sum_ge 4 ws fun x hx => (h.wid k ws hw x hx).2.1 e
        omega
  intro k ws hk
  have hlt := (List.getElem?_eq_some_iff.1 hk).1
  have := (key (wss.length - 1 - k) k ws (by omega) hk).1
  omega
/-- shaped, of what Shape has made. -/
theorem Shaped.shaped {w w' : World} {n : Nat} {v : Value} (h : Shaped w n v w') (hn : n < 2 ^ 30) : Calls Try.prog 15 #[v, .int .i64 n] w' fun e w2 => e = .returned (.bool true) ∧ ∃ q, w2 = w'.drewN q := by
  obtain ⟨p, wss, svs, h1, h2⟩ := h
  obtain ⟨l1, l2⟩ := h2.len hn
  obtain ⟨ob, cap, rfl, hG⟩ := h1.grid l1
  exact shaped_any hG h2 (by omega) (h2.lens hn) (by omega)
theorem shp9 {wss : List (List Nat)} (h : Shp wss 9) : ∃ x y, wss = [[2], [x, y]] ∧ x + y = 9 := by
  obtain ⟨a, ha⟩ := h.one
  have hw := h.wid 0 _ ha a (by simp)
  match wss, ha, h, hw with
  | [ws], ha, h, hw =>
    have : ws = [a] := by simpa using ha
    subst this
    have := h.last [a] rfl
    simp at this; omega
  | [ws, ws'], ha, h, hw =>
    have : ws = [a] := by simpa using ha
    subst this
    have h1 := h.next 0 [a] ws' rfl rfl
    have h2 := h.last ws' rfl
    have h3 := sum_ge 4 ws' fun x hx => (h.wid 1 ws' rfl x hx).2.1 (by omega)
    have h4 := hw.2.2 rfl (by simp)
    simp at h1
    have h5 : ws'.length = 2 := by omega
    match ws', h5 with
    | [x, y], _ =>
      simp at h2 h1
      exact ⟨x, y, by rw [h1], h2⟩
  | ws :: ws' :: ws'' :: r, ha, h, hw =>
    have h3 := h.deep (by simp)
    have h5 : 4 ^ 2 ≤ 4 ^ ((ws :: ws' :: ws'' :: r).length - 1) := Nat.pow_le_pow_right (by omega) (by simp)
    omega
def nine : List ByteArray := [⟨#[97]⟩, ⟨#[98]⟩, ⟨#[99]⟩, ⟨#[100]⟩, ⟨#[101]⟩, ⟨#[102]⟩, ⟨#[103]⟩, ⟨#[104]⟩, ⟨#[105]⟩]
theorem nine_lies (w : World) : Lies nobody (w.alloc (.cells #[.string ⟨#[97]⟩, .string ⟨#[98]⟩, .string ⟨#[99]⟩, .string ⟨#[100]⟩, .string ⟨#[101]⟩, .string ⟨#[102]⟩, .string ⟨#[103]⟩, .string ⟨#[104]⟩, .string ⟨#[105]⟩] 9)) (.slice (some ⟨w.heap.size, 0, none⟩) 9 9) nine := by
  refine ⟨some ⟨w.heap.size, 0, none⟩, 9, rfl, by decide, by simp [maxLen], .inr ⟨w.heap.size, 0, rfl, by simp, rfl, fun j y hj => ?_⟩⟩
  rw [cell_at (alloc_new w _), Nat.zero_add]
  match j, hj with
  | 0, hj => cases hj; rfl
  | 1, hj => cases hj; rfl
  | 2, hj => cases hj; rfl
  | 3, hj => cases hj; rfl
  | 4, hj => cases hj; rfl
  | 5, hj => cases hj; rfl
  | 6, hj => cases hj; rfl
  | 7, hj => cases hj; rfl
  | 8, hj => cases hj; rfl
  | j + 9, hj => simp [nine] at hj
set_option maxHeartbeats 2000000 in
set_option maxRecDepth 100000 in
theorem known_any (w : World) : Calls Try.prog 9 #[] w fun e w' => e = .returned (.bool true) ∧ Below w.heap.size w w' := by
  have HN := new_any (nine_lies w) (by simp [nine]) (by decide)
  have hsz : (w.alloc (.cells #[.string ⟨#[97]⟩, .string ⟨#[98]⟩, .string ⟨#[99]⟩, .string ⟨#[100]⟩, .string ⟨#[101]⟩, .string ⟨#[102]⟩, .string ⟨#[103]⟩, .string ⟨#[104]⟩, .string ⟨#[105]⟩] 9)).heap.size = w.heap.size + 1 := by simp
  rw [hsz] at HN
  have HN' : Hid _ := HN
  have HB0 : Hid (∀ w', After nobody (w.alloc (.cells #[.string ⟨#[97]⟩, .string ⟨#[98]⟩, .string ⟨#[99]⟩, .string ⟨#[100]⟩, .string ⟨#[101]⟩, .string ⟨#[102]⟩, .string ⟨#[103]⟩, .string ⟨#[104]⟩, .string ⟨#[105]⟩] 9)) (w.heap.size + 1) nine (1 + 22 * nine.length) w' → Below w.heap.size w w') := fun w' h => below_then ((Below.refl _ w).alloc (Nat.le_refl _) _) h.below
  clear HN hsz
  go_enter Try.func9, Try.ntmps9
  go_wp2_with fail
  refine Calls.mono HN'.out ?_
  rintro e w1 ⟨rfl, hA⟩
  have HB1 : Hid (Below w.heap.size w w1) := HB0.out w1 hA
  obtain ⟨o1, hT, _⟩ := hA
  have HS : Hid (Calls Try.prog 16 #[.pointer (some ⟨w.heap.size + 1, 0, none⟩)] w1 fun e w' => ∃ v, e = .returned v ∧ Shaped w1 9 v w') := shape_any hT (by simp [nine])
  have HT : Hid (Tr o1 w1 (w.heap.size + 1) nine (1 + 22 * nine.length)) := hT
  clear hT HN' HB0
  go_wp2_with fail
  refine Calls.mono HS.out ?_
  rintro e w2 ⟨v, rfl, hSh⟩
  have HB2 : Hid (Below w.heap.size w w2) := below_then HB1.out hSh.below
  have hT2 := HT.out.below hSh.below
  have HG : Hid (Calls Try.prog 20 #[.pointer (some ⟨w.heap.size + 1, 0, none⟩), .int .i64 8] w2 fun e w' => e = .returned (.tuple #[.string ⟨#[105]⟩, .bool true]) ∧ ∃ q, w' = w2.drewN q) := get_ok hT2 (by simp [nine]) (i := 8) (y := ⟨#[105]⟩) rfl
  have HL : Hid (∀ W : World, W.heap = w2.heap → Calls Try.prog 18 #[.pointer (some ⟨w.heap.size + 1, 0, none⟩)] W fun e w' => e = .returned (.int .i64 9) ∧ ∃ q', w' = W.drewN q') := fun W hW => (hT2.heap hW).len
  obtain ⟨p, wss, svs, h1, h2⟩ := hSh
  obtain ⟨x, y, rfl, hxy⟩ := shp9 h2
  obtain ⟨ob, cap, rfl, hG⟩ := h1.grid (by simp)
  obtain ⟨a0, c0, e0, hc0, hm0, f0⟩ := hG.row 0 [2] rfl
  obtain ⟨i0, rfl, e00⟩ := f0 0 2 rfl
  obtain ⟨a1, c1, e1, hc1, hm1, f1⟩ := hG.row 1 [x, y] rfl
  obtain ⟨i1, rfl, e10⟩ := f1 0 x rfl
  obtain ⟨i1', hh, e11⟩ := f1 1 y rfl
  cases hh
  have hle := hG.le
  have hmx := hG.mx
  replace e0 : w2.cell? ⟨ob, 0, none⟩ = some (.slice (some ⟨i0, 0, none⟩) 1 c0) := e0
  replace e1 : w2.cell? ⟨ob, 1, none⟩ = some (.slice (some ⟨i1, 0, none⟩) 2 c1) := e1
  replace e00 : w2.cell? ⟨i0, 0, none⟩ = some (.int .i64 2) := e00
  replace hle : 2 ≤ cap := hle
  have hwr : IntKind.i64.wrap ((x : Int) + (y : Int)) = 9 := by rw [IntKind.wrap_i64]; omega
  have HF : Hid (∀ q, Below w.heap.size w (w2.drewN q)) := fun q => below_then HB2.out (below_drewN w2 q)
  unfold maxLen at hmx
  clear h1 h2 hG f0 f1 hc0 hm0 hc1 hm1 hT2 hxy
  simp only [List.length_cons, List.length_nil, Nat.zero_add, Nat.reduceAdd]
  go_wp2_with (go_at_call 20; refine Calls.mono HG.out ?_; rintro e w3 ⟨rfl, q, rfl⟩)
  go_quiet ((go_at_call 18; refine Calls.mono (HL.out _ (by rw [drewN_heap])) ?_; rintro e w4 ⟨rfl, m, rfl⟩; exact ⟨rfl, _, by rw [drew2, Nat.add_assoc]⟩))
  go_wp2_with fail
  go_ret
  exact ⟨rfl, by rw [drew2]; exact HF.out _⟩
end Go.Proofs.Ytfnhbjokokjhfaa
