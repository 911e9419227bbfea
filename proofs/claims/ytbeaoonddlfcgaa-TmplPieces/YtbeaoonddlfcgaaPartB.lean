/- Texts that the proof of the law stands on: TK, TLP. -/
import Derived.Test.YtbeaoonddlfcgaaPartA
/- The chapter's examples. -/
namespace Go.Proofs.Ytbeaoonddlfcgaa
open Go.ChangeShapes Go.WideShapes Go.ChangeAt Go.RowKit Go.Shelf
set_option linter.unusedVariables false
set_option linter.unusedSimpArgs false
theorem flatT_get {l : List Tm} {i : Nat} {t : Tm} (h : l[i]? = some t) (j : Nat) (hj : j < 4) : (flatT l)[i * 4 + j]? = t.cells[j]? := by
  induction l generalizing i with
  | nil => simp at h
  | cons a l ih =>
    have hc : a.cells.length = 4 := rfl
    cases i with
    | zero =>
      simp only [List.getElem?_cons_zero, Option.some.injEq] at h
      subst h
      simp only [flatT, List.flatMap_cons]
      rw [List.getElem?_append_left (by omega)]
      simp
    | succ i =>
      simp only [List.getElem?_cons_succ] at h
      have := ih h
      simp only [flatT, List.flatMap_cons] at *
      rw [List.getElem?_append_right (by omega), hc, show (i + 1) * 4 + j - 4 = i * 4 + j by omega]
      exact this
/-- Pieces in memory. -/
def Tms (v : Value) (l : List Tm) (w : World) : Prop := ∃ B, w.ownsRow B 27 4 v l.length (flatT l)
theorem Tms.kp {v : Value} {l : List Tm} {w w1 : World} (h : Tms v l w) (k : Kp w w1) : Tms v l w1 := by
  obtain ⟨B, h⟩ := h
  exact ⟨B, row_kp h k⟩
theorem Tms.form {v : Value} {l : List Tm} {w : World} (h : Tms v l w) : ∃ a cap, v = .slice a l.length cap ∧ l.length ≤ cap ∧ cap ≤ maxLen := by
  obtain ⟨B, h⟩ := h
  exact owns_form h
theorem Tms.at {a : Option Addr} {n cap : Nat} {l : List Tm} {w : World} (h : Tms (.slice a n cap) l w) {i : Nat} {t : Tm} (hi : l[i]? = some t) :
    ∃ g, a = some ⟨g, 0, none⟩ ∧ w.cell? ⟨g, i * 4, none⟩ = some (.int .u8 t.kd) ∧ w.cell? ⟨g, i * 4 + 1, none⟩ = some (.string ⟨t.tx.toArray⟩) ∧ w.cell? ⟨g, i * 4 + 2, none⟩ = some (.int .i64 t.n) ∧ w.cell? ⟨g, i * 4 + 3, none⟩ = some (.int .u8 t.c) := by
  obtain ⟨B, h⟩ := h
  have hlt := (List.getElem?_eq_some_iff.1 hi).1
  rcases h.2 with ⟨q, e⟩ | ⟨g, cap', cur, e, hb, hg, h1, h2, h3, h4⟩
  · omega
  · injection e with e _ _
    have key : ∀ j, j < 4 → w.cell? ⟨g, i * 4 + j, none⟩ = t.cells[j]? := fun j hj => by
      rw [cell_at hg, ← flatT_get hi j hj, ← h4, List.getElem?_take]
      rw [if_pos (by omega), Array.getElem?_toList]
    exact ⟨g, e, key 0 (by omega), key 1 (by omega), key 2 (by omega), key 3 (by omega)⟩
theorem parse_tms (S : ByteArray) (hS : S.size ≤ 2000) (l : List Tm) (hl : parseF S.data.toList = l) (w : World) : Calls Try.prog 9 #[.string S] w fun e w' => ∃ a cap, e = .returned (.slice a l.length cap) ∧ Tms (.slice a l.length cap) l w' ∧ Kp w w' ∧ l.length ≤ cap ∧ cap ≤ maxLen := by
  refine (parse_any S hS w).mono ?_
  rintro e w' ⟨⟨v, rfl, hr⟩, k⟩
  rw [hl] at hr
  obtain ⟨a, cap, rfl, h1, h2⟩ := owns_form hr
  exact ⟨a, cap, rfl, ⟨_, hr⟩, k, h1, h2⟩
theorem resolve_eq (S last : ByteArray) (hS : S.size ≤ 2000) (hl : last.size ≤ 1000) (x : List UInt8) (hx : resF S.data.toList last.data.toList = x) (w : World) : Calls Try.prog 12 #[.string S, .string last] w fun e w' => e = .returned (.string ⟨x.toArray⟩) ∧ Kp w w' := by
  rw [← hx]; exact resolve_any S last hS hl w
set_option maxHeartbeats 2000000 in
theorem known_any (w : World) : Calls Try.prog 8 #[] w fun e w' => e = .returned (.bool true) ∧ Kp w w' := by
  have HP : Hid _ := parse_tms ⟨#[97, 92, 117, 38, 92, 114]⟩ (by decide) [⟨1, [97], 0, 0⟩, ⟨4, [], 0, 117⟩, ⟨2, [], 0, 0⟩, ⟨3, [], 0, 0⟩] (by decide +kernel) w
  have HR : Hid _ := fun w => resolve_eq ⟨#[120, 126, 92, 126]⟩ ⟨#[38]⟩ (by decide) (by decide) [120, 38, 126] (by decide +kernel) w
  go_enter Try.func8, Try.ntmps8
  go_wp2_with fail
  refine Calls.mono HP.out ?_
  rintro e w1 ⟨a, cap, rfl, h1, k1, q1, q2⟩
  obtain ⟨g, rfl, c00, c01, c02, c03⟩ := h1.at (i := 0) rfl
  obtain ⟨g', e', c10, c11, c12, c13⟩ := h1.at (i := 1) rfl
  obtain ⟨g'', e'', c20, c21, c22, c23⟩ := h1.at (i := 2) rfl
  obtain ⟨g3, e3, c30, c31, c32, c33⟩ := h1.at (i := 3) rfl
  injection e' with e'
  injection e' with e'
  injection e'' with e''
  injection e'' with e''
  injection e3 with e3
  injection e3 with e3
  subst e' e'' e3
  simp only [Nat.reduceMul, Nat.reduceAdd, List.length_cons, List.length_nil] at c00 c01 c02 c03 c10 c11 c12 c13 c20 c21 c22 c23 c30 c31 c32 c33 q1 ⊢
  have HK : Hid (Kp w w1) := k1
  clear h1 k1
  unfold maxLen at q2
  go_wp2_with fail
  refine Calls.mono (HR.out w1) ?_
  rintro e w2 ⟨rfl, k2⟩
  have HK2 : Hid (Kp w w2) := kp_trans HK.out k2
  clear k2
  go_wp2_with fail
  go_ret
  exact ⟨rfl, HK2.out⟩
end Go.Proofs.Ytbeaoonddlfcgaa
/- TmplPieces: the walk. -/
namespace Go.Proofs.Ytbeaoonddlfcgaa
open Go.ChangeShapes Go.WideShapes Go.ChangeAt Go.RowKit Go.Shelf
set_option linter.unusedVariables false
set_option linter.unusedSimpArgs false
/-- What a piece may be. -/
def okT (t : Tm) : Prop := (t.kd = 1 ∧ t.tx ≠ [] ∧ t.n = 0 ∧ t.c = 0) ∨ (t.kd = 2 ∧ t.tx = [] ∧ t.n ≤ 9 ∧ t.c = 0) ∨ (t.kd = 3 ∧ t.tx = [] ∧ t.n = 0 ∧ t.c = 0) ∨ (t.kd = 4 ∧ t.tx = [] ∧ t.n = 0 ∧ (t.c = 117 ∨ t.c = 108 ∨ t.c = 85 ∨ t.c = 76 ∨ t.c = 69))
structure Good (l : List Tm) : Prop where
  ok : ∀ t ∈ l, okT t
  adj : ∀ (i : Nat) (a b : Tm), l[i]? = some a → l[i + 1]? = some b → b.kd = 1 → a.kd ≠ 1
def Shut (l : List Tm) : Prop := ∀ t, l.getLast? = some t → t.kd ≠ 1
theorem Good.snoc {l : List Tm} {t : Tm} (h : Good l) (ht : okT t) (hs : t.kd = 1 → Shut l) : Good (l ++ [t]) := by
  refine ⟨fun x hx => ?_, fun i a b ha hb h1 => ?_⟩
  · rcases List.mem_append.1 hx with q | q
    · exact h.ok x q
    · simp only [List.mem_singleton] at q; subst q; exact ht
  · rcases Nat.lt_or_ge (i + 1) l.length with q | q
    · rw [List.getElem?_append_left (by omega)] at ha hb
      exact h.adj i a b ha hb h1
    · have hi : i + 1 = l.length := by
        have := (List.getElem?_eq_some_iff.1 hb).1
        simp at this; omega
      rw [List.getElem?_append_right (by omega), hi, Nat.sub_self] at hb
      simp only [List.getElem?_cons_zero, Option.some.injEq] at hb
      subst hb
      rw [List.getElem?_append_left (by omega)] at ha
      refine hs h1 a ?_
      rw [List.getLast?_eq_getElem?, show l.length - 1 = i by omega]
      exact ha
theorem piece_ok {p : UInt8 × Bool} {t : Tm} (h : pieceF p = some t) : okT t ∧ t.kd ≠ 1 := by
  unfold pieceF at h
  split at h
  · split at h
    · injection h with h; subst h; exact ⟨.inr (.inl ⟨rfl, rfl, by simp only; omega, rfl⟩), by simp⟩
    · split at h
      · injection h with h; subst h; exact ⟨.inr (.inr (.inl ⟨rfl, rfl, rfl, rfl⟩)), by simp⟩
      · split at h
        · rename_i q
          injection h with h; subst h
          refine ⟨.inr (.inr (.inr ⟨rfl, rfl, rfl, ?_⟩)), by simp⟩
          rcases q with q | q | q | q <;> rw [q] <;> simp
        · split at h
          · injection h with h; subst h; exact ⟨.inr (.inr (.inr ⟨rfl, rfl, rfl, by simp⟩)), by simp⟩
          · cases h
  · split at h
    · injection h with h; subst h; exact ⟨.inr (.inl ⟨rfl, rfl, by simp, rfl⟩), by simp⟩
    · cases h
theorem good_lay {xs : List UInt8} {l : List Tm} (h : Good l) (hs : Shut l) : Good (layF xs l) := by
  unfold layF
  split
  · exact h
  · rename_i q
    exact h.snoc (.inl ⟨rfl, q, rfl, rfl⟩) fun _ => hs
theorem good_fold (l : List (UInt8 × Bool)) (st : List Tm × List UInt8) (h : Good st.1 ∧ Shut st.1) : Good (l.foldl stepP st).1 ∧ Shut (l.foldl stepP st).1 := by
  induction l generalizing st with
  | nil => exact h
  | cons p l ih =>
    rw [List.foldl_cons]
    refine ih _ ?_
    unfold stepP
    split
    · rename_i t ht
      obtain ⟨q1, q2⟩ := piece_ok ht
      refine ⟨(good_lay h.1 h.2).snoc q1 fun q => absurd q q2, fun x hx => ?_⟩
      simp only [List.getLast?_append, List.getLast?_singleton, Option.some_or, Option.some.injEq] at hx
      subst hx; exact q2
    · exact h
theorem parse_good (s : List UInt8) : Good (parseF s) := by
  have h0 : Good [] ∧ Shut [] := ⟨⟨fun _ h => (by cases h), fun i a b h => (by simp at h)⟩, fun t h => (by cases h)⟩
  have := good_fold (sgns s) ([], []) h0
  exact good_lay this.1 this.2
set_option maxHeartbeats 4000000 in
set_option maxRecDepth 100000 in
theorem pieces_walk (S : ByteArray) (w : World) : Calls Try.prog 5 #[.string S] w fun e w' => e = .returned (.bool true) ∧ Kp w w' := by
  obtain ⟨n, hn⟩ : ∃ n, S.size = n := ⟨_, rfl⟩
  by_cases hbig : 1500 < n
  · have d1 : decide ((n : Int) > 1500) = true := decide_eq_true (by omega)
    have d1' : decide ((1500 : Int) < (n : Int)) = true := decide_eq_true (by omega)
    go_enter Try.func5, Try.ntmps5
    go_wp2_with fail
    refine Calls.mono (known_any w) ?_
    rintro e w1 ⟨rfl, k1⟩
    go_wp2_with fail
    go_ret
    exact ⟨rfl, k1⟩
  have d1 : decide ((n : Int) > 1500) = false := decide_eq_false (by omega)
  have d1' : decide ((1500 : Int) < (n : Int)) = false := decide_eq_false (by omega)
  obtain ⟨l, hl⟩ : ∃ l, parseF S.data.toList = l := ⟨_, rfl⟩
  have HP : Hid (∀ w, Calls Try.prog 9 #[.string S] w fun e w' => ∃ a cap, e = .returned (.slice a l.length cap) ∧ Tms (.slice a l.length cap) l w' ∧ Kp w w' ∧ l.length ≤ cap ∧ cap ≤ maxLen) := fun w => parse_tms S (by omega) l hl w
  have hlen : l.length ≤ n := by
    have := parseF_len S.data.toList
    rw [hl] at this
    rw [← hn]; simpa using this
  have HG : Hid (Good l) := hl ▸ parse_good S.data.toList
  obtain ⟨N, hN⟩ : ∃ N, l.length = N := ⟨_, rfl⟩
  have HN : Hid (l.length = N) := hN
  rw [hN] at hlen HP
  clear hl hN
  go_enter Try.func5, Try.ntmps5
  go_wp2_with fail
  refine Calls.mono (known_any w) ?_
  rintro e w1 ⟨rfl, k1⟩
  have HK : Hid (Kp w w1) := k1
  clear k1
  go_wp2_with fail
  refine Calls.mono (HP.out w1) ?_
  rintro e w2 ⟨a, cap, rfl, hT, k2, q1, q2⟩
  have HT : Hid (Tms (.slice a N cap) l w2 ∧ Kp w w2) := ⟨hT, kp_trans HK.out k2⟩
  unfold maxLen at q2
  clear hT k2 HK HP
  go_wp2_with fail
  go_loopw [4] (fun v4 wr => ∃ i : Nat, i ≤ N ∧ v4 = .int .i64 i ∧ Hid (Kp w2 wr)) (fun v4 _ => N - (intOf v4).toNat)
  case atStart => exact ⟨0, Nat.zero_le _, rfl, Below.refl _ _⟩
  case round =>
    obtain ⟨i, hi, rfl, HW⟩ := hrel
    by_cases hlt : i < N
    · have dl : decide ((i : Int) < (N : Int)) = true := decide_eq_true (by omega)
      have hil : i < l.length := by rw [HN.out]; exact hlt
      obtain ⟨t, ht⟩ : ∃ t, l[i]'hil = t := ⟨_, rfl⟩
      have hti : l[i]? = some t := by rw [List.getElem?_eq_getElem hil, ht]
      obtain ⟨g, rfl, c0, c1, c2, c3⟩ := (HT.out.1.kp HW.out).at hti
      have hok := HG.out.ok t (List.mem_of_getElem? hti)
      have HR : Hid (∀ ob, Kp w2 (wr.alloc ob)) := fun ob => kp_trans HW.out (kp_alloc _ _)
      have HPREV : Hid (∀ j, i = j + 1 → t.kd = 1 → ∃ k : Nat, k ≠ 1 ∧ (∀ ob, (wr.alloc ob).cell? ⟨g, j * 4, none⟩ = some (.int .u8 k))) := by
        intro j hj h1
        subst hj
        have hjl : j < l.length := by omega
        obtain ⟨t', ht'⟩ : ∃ t', l[j]'hjl = t' := ⟨_, rfl⟩
        have htj : l[j]? = some t' := by rw [List.getElem?_eq_getElem hjl, ht']
        obtain ⟨g', eg, y0, _⟩ := (HT.out.1.kp HW.out).at htj
        injection eg with eg
        injection eg with eg
        subst eg
        exact ⟨t'.kd, HG.out.adj j t' t htj hti h1, fun ob => kp_cell (kp_alloc _ _) y0⟩
      have hprev := HPREV.out
      clear hti ht HPREV
      obtain ⟨kd, tx, nn, cc⟩ := t
      simp only at c0 c1 c2 c3 hok hprev
      rcases hok with ⟨rfl, h2, rfl, rfl⟩ | ⟨rfl, rfl, h3, rfl⟩ | ⟨rfl, rfl, rfl, rfl⟩ | ⟨rfl, rfl, rfl, h5⟩
      · obtain ⟨X, hX⟩ : ∃ X : ByteArray, (⟨tx.toArray⟩ : ByteArray) = X := ⟨_, rfl⟩
        have hX0 : X ≠ ⟨#[]⟩ := by
          rw [← hX]
          intro q
          injection q with q
          have := congrArg Array.toList q
          simp at this
          exact h2 this
        rw [hX] at c1
        clear hX h2
        have eX : X.toList.isEmpty = false := by
          have : X.toList = X.data.toList := ByteArray.toList_eq X
          cases h : X.toList with
          | nil =>
            exfalso
            rw [h] at this
            apply hX0
            cases X with
            | mk d => congr 1; exact Array.toList_inj.1 this.symm
          | cons _ _ => rfl
        clear hX0
        cases i with
        | zero =>
          clear hprev
          replace c0 : wr.cell? ⟨g, 0 * 4, none⟩ = some (.int .u8 1) := c0
          replace c1 : wr.cell? ⟨g, 0 * 4 + 1, none⟩ = some (.string X) := c1
          replace c2 : wr.cell? ⟨g, 0 * 4 + 2, none⟩ = some (.int .i64 0) := c2
          replace c3 : wr.cell? ⟨g, 0 * 4 + 3, none⟩ = some (.int .u8 0) := c3
          simp only [Nat.zero_mul, Nat.zero_add] at c0 c1 c2 c3
          go_wp2_with fail
          go_roundw
          case rel => exact ⟨1, by omega, by go_num, HR.out _⟩
          case measure => simp only [intOf]; omega
        | succ j =>
          obtain ⟨k, hk1, hkc⟩ := hprev j rfl rfl
          have ek : ((k : Int) == 1) = false := by simp; omega
          have dj : decide ((j : Int) + 1 > 0) = true := decide_eq_true (by omega)
          have dj' : decide ((0 : Int) < (j : Int) + 1) = true := decide_eq_true (by omega)
          have hkc := hkc (.cells #[.int .u8 1, .string X, .int .i64 0, .int .u8 0] 27)
          clear hprev hk1
          replace c0 : wr.cell? ⟨g, (j + 1) * 4, none⟩ = some (.int .u8 1) := c0
          replace c1 : wr.cell? ⟨g, (j + 1) * 4 + 1, none⟩ = some (.string X) := c1
          replace c2 : wr.cell? ⟨g, (j + 1) * 4 + 2, none⟩ = some (.int .i64 0) := c2
          replace c3 : wr.cell? ⟨g, (j + 1) * 4 + 3, none⟩ = some (.int .u8 0) := c3
          go_wp2_with fail
          go_roundw
          case rel => exact ⟨j + 1 + 1, by omega, by go_num, HR.out _⟩
          case measure => simp only [intOf]; omega
      · clear hprev
        replace c0 : wr.cell? ⟨g, i * 4, none⟩ = some (.int .u8 2) := c0
        replace c1 : wr.cell? ⟨g, i * 4 + 1, none⟩ = some (.string ⟨#[]⟩) := c1
        replace c2 : wr.cell? ⟨g, i * 4 + 2, none⟩ = some (.int .i64 nn) := c2
        replace c3 : wr.cell? ⟨g, i * 4 + 3, none⟩ = some (.int .u8 0) := c3
        replace h3 : nn ≤ 9 := h3
        have dn : decide ((nn : Int) < 0) = false := decide_eq_false (by omega)
        have dm : decide ((nn : Int) > 9) = false := decide_eq_false (by omega)
        have dm' : decide ((9 : Int) < (nn : Int)) = false := decide_eq_false (by omega)
        go_wp2_with fail
        go_roundw
        case rel => exact ⟨i + 1, by omega, by go_num, HR.out _⟩
        case measure => simp only [intOf]; omega
      · clear hprev
        replace c0 : wr.cell? ⟨g, i * 4, none⟩ = some (.int .u8 3) := c0
        replace c1 : wr.cell? ⟨g, i * 4 + 1, none⟩ = some (.string ⟨#[]⟩) := c1
        replace c2 : wr.cell? ⟨g, i * 4 + 2, none⟩ = some (.int .i64 0) := c2
        replace c3 : wr.cell? ⟨g, i * 4 + 3, none⟩ = some (.int .u8 0) := c3
        go_wp2_with fail
        go_roundw
        case rel => exact ⟨i + 1, by omega, by go_num, HR.out _⟩
        case measure => simp only [intOf]; omega
      · clear hprev
        rcases h5 with rfl | rfl | rfl | rfl | rfl
        · replace c0 : wr.cell? ⟨g, i * 4, none⟩ = some (.int .u8 4) := c0
          replace c1 : wr.cell? ⟨g, i * 4 + 1, none⟩ = some (.string ⟨#[]⟩) := c1
          replace c2 : wr.cell? ⟨g, i * 4 + 2, none⟩ = some (.int .i64 0) := c2
          replace c3 : wr.cell? ⟨g, i * 4 + 3, none⟩ = some (.int .u8 117) := c3
          go_wp2_with fail
          go_roundw
          case rel => exact ⟨i + 1, by omega, by go_num, HR.out _⟩
          case measure => simp only [intOf]; omega
        · replace c0 : wr.cell? ⟨g, i * 4, none⟩ = some (.int .u8 4) := c0
          replace c1 : wr.cell? ⟨g, i * 4 + 1, none⟩ = some (.string ⟨#[]⟩) := c1
          replace c2 : wr.cell? ⟨g, i * 4 + 2, none⟩ = some (.int .i64 0) := c2
          replace c3 : wr.cell? ⟨g, i * 4 + 3, none⟩ = some (.int .u8 108) := c3
          go_wp2_with fail
          go_roundw
          case rel => exact ⟨i + 1, by omega, by go_num, HR.out _⟩
          case measure => simp only [intOf]; omega
        · replace c0 : wr.cell? ⟨g, i * 4, none⟩ = some (.int .u8 4) := c0
          replace c1 : wr.cell? ⟨g, i * 4 + 1, none⟩ = some (.string ⟨#[]⟩) := c1
          replace c2 : wr.cell? ⟨g, i * 4 + 2, none⟩ = some (.int .i64 0) := c2
          replace c3 : wr.cell? ⟨g, i * 4 + 3, none⟩ = some (.int .u8 85) := c3
          go_wp2_with fail
          go_roundw
          case rel => exact ⟨i + 1, by omega, by go_num, HR.out _⟩
          case measure => simp only [intOf]; omega
        · replace c0 : wr.cell? ⟨g, i * 4, none⟩ = some (.int .u8 4) := c0
          replace c1 : wr.cell? ⟨g, i * 4 + 1, none⟩ = some (.string ⟨#[]⟩) := c1
          replace c2 : wr.cell? ⟨g, i * 4 + 2, none⟩ = some (.int .i64 0) := c2
          replace c3 : wr.cell? ⟨g, i * 4 + 3, none⟩ = some (.int .u8 76) := c3
          go_wp2_with fail
          go_roundw
          case rel => exact ⟨i + 1, by omega, by go_num, HR.out _⟩
          case measure => simp only [intOf]; omega
        · replace c0 : wr.cell? ⟨g, i * 4, none⟩ = some (.int .u8 4) := c0
          replace c1 : wr.cell? ⟨g, i * 4 + 1, none⟩ = some (.string ⟨#[]⟩) := c1
          replace c2 : wr.cell? ⟨g, i * 4 + 2, none⟩ = some (.int .i64 0) := c2
          replace c3 : wr.cell? ⟨g, i * 4 + 3, none⟩ = some (.int .u8 69) := c3
          go_wp2_with fail
          go_roundw
          case rel => exact ⟨i + 1, by omega, by go_num, HR.out _⟩
          case measure => simp only [intOf]; omega
    · obtain rfl : i = N := by omega
      have dl : decide ((i : Int) < (i : Int)) = false := by simp
      have de : decide ((i : Int) ≤ (n : Int)) = true := decide_eq_true (by omega)
      go_wp2_with fail
      go_ret
      exact ⟨rfl, kp_trans HT.out.2 HW.out⟩
end Go.Proofs.Ytbeaoonddlfcgaa
