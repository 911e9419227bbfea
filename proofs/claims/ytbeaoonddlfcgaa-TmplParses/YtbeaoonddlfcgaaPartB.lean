/- Texts that the proof of the law stands on: TK, TLR, TLP, TLA, TLB, YT, YS, TLL, YR. -/
import Derived.Test.YtbeaoonddlfcgaaPartA
import Derived.Laws.Concat
/- The chapter's examples. -/
namespace Go.Proofs.Ytbeaoonddlfcgaa
open Go.ChangeShapes Go.WideShapes Go.ChangeAt Go.RowKit Go.Shelf
set_option linter.unusedVariables false
set_option linter.unusedSimpArgs false
theorem flatT_get {l : List Tm} {i : Nat} {t : Tm} (h : l[i]? = some t) (j : Nat) (hj : j < 4) : (flatT l)[i * 4 + j]? = t.cells[j]? := by
  induction l generalizing i with
  | nil => simp at h
  | cons a l ih =>
    have hc : a.cells.length = 4 := rfl
    cases i with
    | zero =>
      simp only [List.getElem?_cons_zero, Option.some.injEq] at h
      subst h
      simp only [flatT, List.flatMap_cons]
      rw [List.getElem?_append_left (by omega)]
      simp
    | succ i =>
      simp only [List.getElem?_cons_succ] at h
      have := ih h
      simp only [flatT, List.flatMap_cons] at *
      rw [List.getElem?_append_right (by omega), hc, show (i + 1) * 4 + j - 4 = i * 4 + j by omega]
      exact this
/-- Pieces in memory. -/
def Tms (v : Value) (l : List Tm) (w : World) : Prop := ∃ B, w.ownsRow B 27 4 v l.length (flatT l)
theorem Tms.kp {v : Value} {l : List Tm} {w w1 : World} (h : Tms v l w) (k : Kp w w1) : Tms v l w1 := by
  obtain ⟨B, h⟩ := h
  exact ⟨B, row_kp h k⟩
theorem Tms.form {v : Value} {l : List Tm} {w : World} (h : Tms v l w) : ∃ a cap, v = .slice a l.length cap ∧ l.length ≤ cap ∧ cap ≤ maxLen := by
  obtain ⟨B, h⟩ := h
  exact owns_form h
theorem Tms.at {a : Option Addr} {n cap : Nat} {l : List Tm} {w : World} (h : Tms (.slice a n cap) l w) {i : Nat} {t : Tm} (hi : l[i]? = some t) :
    ∃ g, a = some ⟨g, 0, none⟩ ∧ w.cell? ⟨g, i * 4, none⟩ = some (.int .u8 t.kd) ∧ w.cell? ⟨g, i * 4 + 1, none⟩ = some (.string ⟨t.tx.toArray⟩) ∧ w.cell? ⟨g, i * 4 + 2, none⟩ = some (.int .i64 t.n) ∧ w.cell? ⟨g, i * 4 + 3, none⟩ = some (.int .u8 t.c) := by
  obtain ⟨B, h⟩ := h
  have hlt := (List.getElem?_eq_some_iff.1 hi).1
  rcases h.2 with ⟨q, e⟩ | ⟨g, cap', cur, e, hb, hg, h1, h2, h3, h4⟩
  · omega
  · injection e with e _ _
    have key : ∀ j, j < 4 → w.cell? ⟨g, i * 4 + j, none⟩ = t.cells[j]? := fun j hj => by
      rw [cell_at hg, ← flatT_get hi j hj, ← h4, List.getElem?_take]
      rw [if_pos (by omega), Array.getElem?_toList]
    exact ⟨g, e, key 0 (by omega), key 1 (by omega), key 2 (by omega), key 3 (by omega)⟩
theorem parse_tms (S : ByteArray) (hS : S.size ≤ 2000) (l : List Tm) (hl : parseF S.data.toList = l) (w : World) : Calls Try.prog 9 #[.string S] w fun e w' => ∃ a cap, e = .returned (.slice a l.length cap) ∧ Tms (.slice a l.length cap) l w' ∧ Kp w w' ∧ l.length ≤ cap ∧ cap ≤ maxLen := by
  refine (parse_any S hS w).mono ?_
  rintro e w' ⟨⟨v, rfl, hr⟩, k⟩
  rw [hl] at hr
  obtain ⟨a, cap, rfl, h1, h2⟩ := owns_form hr
  exact ⟨a, cap, rfl, ⟨_, hr⟩, k, h1, h2⟩
theorem resolve_eq (S last : ByteArray) (hS : S.size ≤ 2000) (hl : last.size ≤ 1000) (x : List UInt8) (hx : resF S.data.toList last.data.toList = x) (w : World) : Calls Try.prog 12 #[.string S, .string last] w fun e w' => e = .returned (.string ⟨x.toArray⟩) ∧ Kp w w' := by
  rw [← hx]; exact resolve_any S last hS hl w
set_option maxHeartbeats 2000000 in
theorem known_any (w : World) : Calls Try.prog 8 #[] w fun e w' => e = .returned (.bool true) ∧ Kp w w' := by
  have HP : Hid _ := parse_tms ⟨#[97, 92, 117, 38, 92, 114]⟩ (by decide) [⟨1, [97], 0, 0⟩, ⟨4, [], 0, 117⟩, ⟨2, [], 0, 0⟩, ⟨3, [], 0, 0⟩] (by decide +kernel) w
  have HR : Hid _ := fun w => resolve_eq ⟨#[120, 126, 92, 126]⟩ ⟨#[38]⟩ (by decide) (by decide) [120, 38, 126] (by decide +kernel) w
  go_enter Try.func8, Try.ntmps8
  go_wp2_with fail
  refine Calls.mono HP.out ?_
  rintro e w1 ⟨a, cap, rfl, h1, k1, q1, q2⟩
  obtain ⟨g, rfl, c00, c01, c02, c03⟩ := h1.at (i := 0) rfl
  obtain ⟨g', e', c10, c11, c12, c13⟩ := h1.at (i := 1) rfl
  obtain ⟨g'', e'', c20, c21, c22, c23⟩ := h1.at (i := 2) rfl
  obtain ⟨g3, e3, c30, c31, c32, c33⟩ := h1.at (i := 3) rfl
  injection e' with e'
  injection e' with e'
  injection e'' with e''
  injection e'' with e''
  injection e3 with e3
  injection e3 with e3
  subst e' e'' e3
  simp only [Nat.reduceMul, Nat.reduceAdd, List.length_cons, List.length_nil] at c00 c01 c02 c03 c10 c11 c12 c13 c20 c21 c22 c23 c30 c31 c32 c33 q1 ⊢
  have HK : Hid (Kp w w1) := k1
  clear h1 k1
  unfold maxLen at q2
  go_wp2_with fail
  refine Calls.mono (HR.out w1) ?_
  rintro e w2 ⟨rfl, k2⟩
  have HK2 : Hid (Kp w w2) := kp_trans HK.out k2
  clear k2
  go_wp2_with fail
  go_ret
  exact ⟨rfl, HK2.out⟩
end Go.Proofs.Ytbeaoonddlfcgaa
/- TmplResolves: the walk. -/
namespace Go.Proofs.Ytbeaoonddlfcgaa
open Go.ChangeShapes Go.WideShapes Go.ChangeAt Go.RowKit Go.Shelf
set_option linter.unusedVariables false
set_option linter.unusedSimpArgs false
theorem res_same (s last : List UInt8) (h : ∀ b ∈ s, b ≠ 126) : resF s last = s := by
  unfold resF resL
  fun_induction sgns s with
  | case1 => rfl
  | case2 c => simp [resOne, h c (by simp)]
  | case3 d t ih =>
    rw [List.flatMap_cons, ih fun b hb => h b (by simp [hb])]
    simp [resOne, h d (by simp)]
  | case4 c d t h9 ih =>
    rw [List.flatMap_cons, ih fun b hb => h b (List.mem_cons_of_mem _ hb)]
    simp [resOne, h c (by simp)]
theorem ba_list (S : ByteArray) : (⟨S.data.toList.toArray⟩ : ByteArray) = S := by cases S; simp
theorem catS {x y z : List UInt8} (h : x ++ y = z) (hz : z.length ≤ 8000000) (W : World) : (Op.stringOp .add ⟨x.toArray⟩ ⟨y.toArray⟩).run Try.prog W = .ok (.string ⟨z.toArray⟩) W := by
  subst h
  rw [List.length_append] at hz
  exact run_string_add_lists W x y (by omega) (by omega)
/-- No ~ in the first i bytes. -/
def noT (s : List UInt8) : Bool := s.all fun b => b != 126
set_option maxHeartbeats 4000000 in
set_option maxRecDepth 100000 in
theorem resolves_walk (S L : ByteArray) (w : World) : Calls Try.prog 7 #[.string S, .string L] w fun e w' => e = .returned (.bool true) ∧ Kp w w' := by
  obtain ⟨n, hn⟩ : ∃ n, S.size = n := ⟨_, rfl⟩
  obtain ⟨m, hm⟩ : ∃ m, L.size = m := ⟨_, rfl⟩
  by_cases hbig : 500 < n
  · have d1 : decide ((n : Int) > 500) = true := decide_eq_true (by omega)
    have d1' : decide ((500 : Int) < (n : Int)) = true := decide_eq_true (by omega)
    go_enter Try.func7, Try.ntmps7
    go_wp2_with fail
    refine Calls.mono (known_any w) ?_
    rintro e w1 ⟨rfl, k1⟩
    go_wp2_with fail
    go_ret
    exact ⟨rfl, k1⟩
  have d1 : decide ((n : Int) > 500) = false := decide_eq_false (by omega)
  have d1' : decide ((500 : Int) < (n : Int)) = false := decide_eq_false (by omega)
  by_cases hbig2 : 500 < m
  · have d2 : decide ((m : Int) > 500) = true := decide_eq_true (by omega)
    have d2' : decide ((500 : Int) < (m : Int)) = true := decide_eq_true (by omega)
    go_enter Try.func7, Try.ntmps7
    go_wp2_with fail
    refine Calls.mono (known_any w) ?_
    rintro e w1 ⟨rfl, k1⟩
    go_wp2_with fail
    go_ret
    exact ⟨rfl, k1⟩
  have d2 : decide ((m : Int) > 500) = false := decide_eq_false (by omega)
  have d2' : decide ((500 : Int) < (m : Int)) = false := decide_eq_false (by omega)
  have HX : Hid (S.size = n ∧ L.size = m) := ⟨hn, hm⟩
  go_enter Try.func7, Try.ntmps7
  go_wp2_with fail
  refine Calls.mono (known_any w) ?_
  rintro e w1 ⟨rfl, k1⟩
  have HK : Hid (Kp w w1) := k1
  clear k1
  go_wp2_with fail
  go_loopw [5, 6] (fun v5 v6 wr => ∃ i : Nat, i ≤ n ∧ v6 = .int .i64 i ∧ v5 = .bool (noT (S.data.toList.take i)) ∧ wr = w1) (fun _ v6 _ => n - (intOf v6).toNat)
  case atStart => exact ⟨0, Nat.zero_le _, rfl, rfl, rfl⟩
  case round =>
    obtain ⟨i, hi, rfl, rfl, rfl⟩ := hrel
    by_cases hlt : i < n
    · have dl : decide ((i : Int) < (n : Int)) = true := decide_eq_true (by omega)
      have hil : i < S.size := by rw [hn]; exact hlt
      obtain ⟨c, hc⟩ : ∃ c, S[i]'hil = c := ⟨_, rfl⟩
      have HT : Hid (noT (S.data.toList.take (i + 1)) = (noT (S.data.toList.take i) && (c != 126))) := by
        show _ = _
        rw [List.take_add_one, show S.data.toList[i]? = some c by rw [← hc, List.getElem?_eq_getElem (by simpa using hil)]; rfl]
        simp [noT]
      cases hq : noT (S.data.toList.take i) with
      | false =>
        rw [hq] at HT
        go_wp2_with fail
        go_roundw
        case rel => exact ⟨i + 1, by omega, by go_num, by rw [HT.out]; rfl, trivial⟩
        case measure => simp only [intOf]; omega
      | true =>
        rw [hq] at HT
        by_cases h9 : c = 126
        · have hc' : (S[i]'hil).toNat = 126 := by rw [hc, h9]; rfl
          go_wp2_with fail
          go_roundw
          case rel => exact ⟨i + 1, by omega, by go_num, by rw [HT.out, h9]; rfl, trivial⟩
          case measure => simp only [intOf]; omega
        · have h9' : c.toNat ≠ 126 := fun h => h9 (UInt8.toNat_inj.1 h)
          have e9 : ((c.toNat : Int) != 126) = true := by simp; omega
          have hcc : (c != 126) = true := by simpa using h9
          rw [hcc] at HT
          go_wp2_with fail
          go_roundw
          case rel => exact ⟨i + 1, by omega, by go_num, by rw [HT.out]; rfl, trivial⟩
          case measure => simp only [intOf]; omega
    · obtain rfl : i = n := by omega
      have dl : decide ((i : Int) < (i : Int)) = false := by simp
      rw [List.take_of_length_le (by rw [← hn]; simp)]
      have HR : Hid (∀ w, (noT S.data.toList = true → Calls Try.prog 12 #[.string S, .string L] w fun e w' => e = .returned (.string S) ∧ Kp w w') ∧ (Calls Try.prog 12 #[.string ⟨#[126]⟩, .string L] w fun e w' => e = .returned (.string L) ∧ Kp w w') ∧
          (Calls Try.prog 12 #[.string ⟨#[97, 126, 98]⟩, .string L] w fun e w' => e = .returned (.string ⟨([97] ++ L.data.toList ++ [98]).toArray⟩) ∧ Kp w w') ∧ (Calls Try.prog 12 #[.string ⟨#[92, 126]⟩, .string L] w fun e w' => e = .returned (.string ⟨#[126]⟩) ∧ Kp w w')) := by
        obtain ⟨e1, e2⟩ := HX.out
        intro w
        refine ⟨fun h => ?_, ?_, resolve_eq _ _ (by decide) (by omega) _ (by simp [resF, sgns, resL, resOne]) w, resolve_eq _ _ (by decide) (by omega) [126] (by simp [resF, sgns, resL, resOne]) w⟩
        · have := resolve_eq S L (by omega) (by omega) S.data.toList (res_same _ _ fun b hb => by
            have := List.all_eq_true.1 h b hb
            simpa using this) w
          rw [ba_list] at this
          exact this
        · have := resolve_eq ⟨#[126]⟩ L (by decide) (by omega) L.data.toList (by simp [resF, sgns, resL, resOne]) w
          rw [ba_list] at this
          exact this
      obtain ⟨Z, hZ⟩ : ∃ Z : ByteArray, (⟨([97] ++ L.data.toList ++ [98]).toArray⟩ : ByteArray) = Z := ⟨_, rfl⟩
      obtain ⟨Y, hY⟩ : ∃ Y : ByteArray, (⟨([97] ++ L.data.toList).toArray⟩ : ByteArray) = Y := ⟨_, rfl⟩
      have cat1 : ∀ W, (Op.stringOp .add ⟨#[97]⟩ L).run Try.prog W = .ok (.string Y) W := fun W => by
        have := catS (x := [97]) (y := L.data.toList) rfl (by have := HX.out.2; simp; omega) W
        rw [ba_list, hY] at this
        exact this
      have cat2 : ∀ W, (Op.stringOp .add Y ⟨#[98]⟩).run Try.prog W = .ok (.string Z) W := fun W => by
        have := catS (x := [97] ++ L.data.toList) (y := [98]) rfl (by have := HX.out.2; simp; omega) W
        rw [hY, hZ] at this
        exact this
      rw [hZ] at HR
      clear hZ hY
      cases hq : noT S.data.toList with
      | true =>
        rw [hq] at HR
        go_wp2_with fail
        refine Calls.mono ((HR.out _).1 trivial) ?_
        rintro e w2 ⟨rfl, k2⟩
        have H2 : Hid (Kp w w2) := kp_trans HK.out k2
        clear k2
        go_wp2_with fail
        refine Calls.mono ((HR.out _).2.1) ?_
        rintro e w3 ⟨rfl, k3⟩
        have H3 : Hid (Kp w w3) := kp_trans H2.out k3
        clear k3
        go_wp2_with fail
        refine Calls.mono ((HR.out _).2.2.1) ?_
        rintro e w4 ⟨rfl, k4⟩
        have H4 : Hid (Kp w w4) := kp_trans H3.out k4
        clear k4
        go_wp2_with fail
        refine Calls.mono ((HR.out _).2.2.2) ?_
        rintro e w5 ⟨rfl, k5⟩
        have H5 : Hid (Kp w w5) := kp_trans H4.out k5
        clear k5
        go_wp2_with fail
        go_ret
        exact ⟨rfl, H5.out⟩
      | false =>
        go_wp2_with fail
        refine Calls.mono ((HR.out _).2.1) ?_
        rintro e w3 ⟨rfl, k3⟩
        have H3 : Hid (Kp w w3) := kp_trans HK.out k3
        clear k3
        go_wp2_with fail
        refine Calls.mono ((HR.out _).2.2.1) ?_
        rintro e w4 ⟨rfl, k4⟩
        have H4 : Hid (Kp w w4) := kp_trans H3.out k4
        clear k4
        go_wp2_with fail
        refine Calls.mono ((HR.out _).2.2.2) ?_
        rintro e w5 ⟨rfl, k5⟩
        have H5 : Hid (Kp w w5) := kp_trans H4.out k5
        clear k5
        go_wp2_with fail
        go_ret
        exact ⟨rfl, H5.out⟩
end Go.Proofs.Ytbeaoonddlfcgaa
/- TmplPieces: the walk. -/
namespace Go.Proofs.Ytbeaoonddlfcgaa
open Go.ChangeShapes Go.WideShapes Go.ChangeAt Go.RowKit Go.Shelf
set_option linter.unusedVariables false
set_option linter.unusedSimpArgs false
/-- What a piece may be. -/
def okT (t : Tm) : Prop := (t.kd = 1 ∧ t.tx ≠ [] ∧ t.n = 0 ∧ t.c = 0) ∨ (t.kd = 2 ∧ t.tx = [] ∧ t.n ≤ 9 ∧ t.c = 0) ∨ (t.kd = 3 ∧ t.tx = [] ∧ t.n = 0 ∧ t.c = 0) ∨ (t.kd = 4 ∧ t.tx = [] ∧ t.n = 0 ∧ (t.c = 117 ∨ t.c = 108 ∨ t.c = 85 ∨ t.c = 76 ∨ t.c = 69))
structure Good (l : List Tm) : Prop where
  ok : ∀ t ∈ l, okT t
  adj : ∀ (i : Nat) (a b : Tm), l[i]? = some a → l[i + 1]? = some b → b.kd = 1 → a.kd ≠ 1
def Shut (l : List Tm) : Prop := ∀ t, l.getLast? = some t → t.kd ≠ 1
theorem Good.snoc {l : List Tm} {t : Tm} (h : Good l) (ht : okT t) (hs : t.kd = 1 → Shut l) : Good (l ++ [t]) := by
  refine ⟨fun x hx => ?_, fun i a b ha hb h1 => ?_⟩
  · rcases List.mem_append.1 hx with q | q
    · exact h.ok x q
    · simp only [List.mem_singleton] at q; subst q; exact ht
  · rcases Nat.lt_or_ge (i + 1) l.length with q | q
    · rw [List.getElem?_append_left (by omega)] at ha hb
      exact h.adj i a b ha hb h1
    · have hi : i + 1 = l.length := by
        have := (List.getElem?_eq_some_iff.1 hb).1
        simp at this; omega
      rw [List.getElem?_append_right (by omega), hi, Nat.sub_self] at hb
      simp only [List.getElem?_cons_zero, Option.some.injEq] at hb
      subst hb
      rw [List.getElem?_append_left (by omega)] at ha
      refine hs h1 a ?_
      rw [List.getLast?_eq_getElem?, show l.length - 1 = i by omega]
      exact ha
theorem piece_ok {p : UInt8 × Bool} {t : Tm} (h : pieceF p = some t) : okT t ∧ t.kd ≠ 1 := by
  unfold pieceF at h
  split at h
  · split at h
    · injection h with h; subst h; exact ⟨.inr (.inl ⟨rfl, rfl, by simp only; omega, rfl⟩), by simp⟩
    · split at h
      · injection h with h; subst h; exact ⟨.inr (.inr (.inl ⟨rfl, rfl, rfl, rfl⟩)), by simp⟩
      · split at h
        · rename_i q
          injection h with h; subst h
          refine ⟨.inr (.inr (.inr ⟨rfl, rfl, rfl, ?_⟩)), by simp⟩
          rcases q with q | q | q | q <;> rw [q] <;> simp
        · split at h
          · injection h with h; subst h; exact ⟨.inr (.inr (.inr ⟨rfl, rfl, rfl, by simp⟩)), by simp⟩
          · cases h
  · split at h
    · injection h with h; subst h; exact ⟨.inr (.inl ⟨rfl, rfl, by simp, rfl⟩), by simp⟩
    · cases h
theorem good_lay {xs : List UInt8} {l : List Tm} (h : Good l) (hs : Shut l) : Good (layF xs l) := by
  unfold layF
  split
  · exact h
  · rename_i q
    exact h.snoc (.inl ⟨rfl, q, rfl, rfl⟩) fun _ => hs
theorem good_fold (l : List (UInt8 × Bool)) (st : List Tm × List UInt8) (h : Good st.1 ∧ Shut st.1) : Good (l.foldl stepP st).1 ∧ Shut (l.foldl stepP st).1 := by
  induction l generalizing st with
  | nil => exact h
  | cons p l ih =>
    rw [List.foldl_cons]
    refine ih _ ?_
    unfold stepP
    split
    · rename_i t ht
      obtain ⟨q1, q2⟩ := piece_ok ht
      refine ⟨(good_lay h.1 h.2).snoc q1 fun q => absurd q q2, fun x hx => ?_⟩
      simp only [List.getLast?_append, List.getLast?_singleton, Option.some_or, Option.some.injEq] at hx
      subst hx; exact q2
    · exact h
theorem parse_good (s : List UInt8) : Good (parseF s) := by
  have h0 : Good [] ∧ Shut [] := ⟨⟨fun _ h => (by cases h), fun i a b h => (by simp at h)⟩, fun t h => (by cases h)⟩
  have := good_fold (sgns s) ([], []) h0
  exact good_lay this.1 this.2
set_option maxHeartbeats 4000000 in
set_option maxRecDepth 100000 in
theorem pieces_walk (S : ByteArray) (w : World) : Calls Try.prog 5 #[.string S] w fun e w' => e = .returned (.bool true) ∧ Kp w w' := by
  obtain ⟨n, hn⟩ : ∃ n, S.size = n := ⟨_, rfl⟩
  by_cases hbig : 1500 < n
  · have d1 : decide ((n : Int) > 1500) = true := decide_eq_true (by omega)
    have d1' : decide ((1500 : Int) < (n : Int)) = true := decide_eq_true (by omega)
    go_enter Try.func5, Try.ntmps5
    go_wp2_with fail
    refine Calls.mono (known_any w) ?_
    rintro e w1 ⟨rfl, k1⟩
    go_wp2_with fail
    go_ret
    exact ⟨rfl, k1⟩
  have d1 : decide ((n : Int) > 1500) = false := decide_eq_false (by omega)
  have d1' : decide ((1500 : Int) < (n : Int)) = false := decide_eq_false (by omega)
  obtain ⟨l, hl⟩ : ∃ l, parseF S.data.toList = l := ⟨_, rfl⟩
  have HP : Hid (∀ w, Calls Try.prog 9 #[.string S] w fun e w' => ∃ a cap, e = .returned (.slice a l.length cap) ∧ Tms (.slice a l.length cap) l w' ∧ Kp w w' ∧ l.length ≤ cap ∧ cap ≤ maxLen) := fun w => parse_tms S (by omega) l hl w
  have hlen : l.length ≤ n := by
    have := parseF_len S.data.toList
    rw [hl] at this
    rw [← hn]; simpa using this
  have HG : Hid (Good l) := hl ▸ parse_good S.data.toList
  obtain ⟨N, hN⟩ : ∃ N, l.length = N := ⟨_, rfl⟩
  have HN : Hid (l.length = N) := hN
  rw [hN] at hlen HP
  clear hl hN
  go_enter Try.func5, Try.ntmps5
  go_wp2_with fail
  refine Calls.mono (known_any w) ?_
  rintro e w1 ⟨rfl, k1⟩
  have HK : Hid (Kp w w1) := k1
  clear k1
  go_wp2_with fail
  refine Calls.mono (HP.out w1) ?_
  rintro e w2 ⟨a, cap, rfl, hT, k2, q1, q2⟩
  have HT : Hid (Tms (.slice a N cap) l w2 ∧ Kp w w2) := ⟨hT, kp_trans HK.out k2⟩
  unfold maxLen at q2
  clear hT k2 HK HP
  go_wp2_with fail
  go_loopw [4] (fun v4 wr => ∃ i : Nat, i ≤ N ∧ v4 = .int .i64 i ∧ Hid (Kp w2 wr)) (fun v4 _ => N - (intOf v4).toNat)
  case atStart => exact ⟨0, Nat.zero_le _, rfl, Below.refl _ _⟩
  case round =>
    obtain ⟨i, hi, rfl, HW⟩ := hrel
    by_cases hlt : i < N
    · have dl : decide ((i : Int) < (N : Int)) = true := decide_eq_true (by omega)
      have hil : i < l.length := by rw [HN.out]; exact hlt
      obtain ⟨t, ht⟩ : ∃ t, l[i]'hil = t := ⟨_, rfl⟩
      have hti : l[i]? = some t := by rw [List.getElem?_eq_getElem hil, ht]
      obtain ⟨g, rfl, c0, c1, c2, c3⟩ := (HT.out.1.kp HW.out).at hti
      have hok := HG.out.ok t (List.mem_of_getElem? hti)
      have HR : Hid (∀ ob, Kp w2 (wr.alloc ob)) := fun ob => kp_trans HW.out (kp_alloc _ _)
      have HPREV : Hid (∀ j, i = j + 1 → t.kd = 1 → ∃ k : Nat, k ≠ 1 ∧ (∀ ob, (wr.alloc ob).cell? ⟨g, j * 4, none⟩ = some (.int .u8 k))) := by
        intro j hj h1
        subst hj
        have hjl : j < l.length := by omega
        obtain ⟨t', ht'⟩ : ∃ t', l[j]'hjl = t' := ⟨_, rfl⟩
        have htj : l[j]? = some t' := by rw [List.getElem?_eq_getElem hjl, ht']
        obtain ⟨g', eg, y0, _⟩ := (HT.out.1.kp HW.out).at htj
        injection eg with eg
        injection eg with eg
        subst eg
        exact ⟨t'.kd, HG.out.adj j t' t htj hti h1, fun ob => kp_cell (kp_alloc _ _) y0⟩
      have hprev := HPREV.out
      clear hti ht HPREV
      obtain ⟨kd, tx, nn, cc⟩ := t
      simp only at c0 c1 c2 c3 hok hprev
      rcases hok with ⟨rfl, h2, rfl, rfl⟩ | ⟨rfl, rfl, h3, rfl⟩ | ⟨rfl, rfl, rfl, rfl⟩ | ⟨rfl, rfl, rfl, h5⟩
      · obtain ⟨X, hX⟩ : ∃ X : ByteArray, (⟨tx.toArray⟩ : ByteArray) = X := ⟨_, rfl⟩
        have hX0 : X ≠ ⟨#[]⟩ := by
          rw [← hX]
          intro q
          injection q with q
          have := congrArg Array.toList q
          simp at this
          exact h2 this
        rw [hX] at c1
        clear hX h2
        have eX : X.toList.isEmpty = false := by
          have : X.toList = X.data.toList := ByteArray.toList_eq X
          cases h : X.toList with
          | nil =>
            exfalso
            rw [h] at this
            apply hX0
            cases X with
            | mk d => congr 1; exact Array.toList_inj.1 this.symm
          | cons _ _ => rfl
        clear hX0
        cases i with
        | zero =>
          clear hprev
          replace c0 : wr.cell? ⟨g, 0 * 4, none⟩ = some (.int .u8 1) := c0
          replace c1 : wr.cell? ⟨g, 0 * 4 + 1, none⟩ = some (.string X) := c1
          replace c2 : wr.cell? ⟨g, 0 * 4 + 2, none⟩ = some (.int .i64 0) := c2
          replace c3 : wr.cell? ⟨g, 0 * 4 + 3, none⟩ = some (.int .u8 0) := c3
          simp only [Nat.zero_mul, Nat.zero_add] at c0 c1 c2 c3
          go_wp2_with fail
          go_roundw
          case rel => exact ⟨1, by omega, by go_num, HR.out _⟩
          case measure => simp only [intOf]; omega
        | succ j =>
          obtain ⟨k, hk1, hkc⟩ := hprev j rfl rfl
          have ek : ((k : Int) == 1) = false := by simp; omega
          have dj : decide ((j : Int) + 1 > 0) = true := decide_eq_true (by omega)
          have dj' : decide ((0 : Int) < (j : Int) + 1) = true := decide_eq_true (by omega)
          have hkc := hkc (.cells #[.int .u8 1, .string X, .int .i64 0, .int .u8 0] 27)
          clear hprev hk1
          replace c0 : wr.cell? ⟨g, (j + 1) * 4, none⟩ = some (.int .u8 1) := c0
          replace c1 : wr.cell? ⟨g, (j + 1) * 4 + 1, none⟩ = some (.string X) := c1
          replace c2 : wr.cell? ⟨g, (j + 1) * 4 + 2, none⟩ = some (.int .i64 0) := c2
          replace c3 : wr.cell? ⟨g, (j + 1) * 4 + 3, none⟩ = some (.int .u8 0) := c3
          go_wp2_with fail
          go_roundw
          case rel => exact ⟨j + 1 + 1, by omega, by go_num, HR.out _⟩
          case measure => simp only [intOf]; omega
      · clear hprev
        replace c0 : wr.cell? ⟨g, i * 4, none⟩ = some (.int .u8 2) := c0
        replace c1 : wr.cell? ⟨g, i * 4 + 1, none⟩ = some (.string ⟨#[]⟩) := c1
        replace c2 : wr.cell? ⟨g, i * 4 + 2, none⟩ = some (.int .i64 nn) := c2
        replace c3 : wr.cell? ⟨g, i * 4 + 3, none⟩ = some (.int .u8 0) := c3
        replace h3 : nn ≤ 9 := h3
        have dn : decide ((nn : Int) < 0) = false := decide_eq_false (by omega)
        have dm : decide ((nn : Int) > 9) = false := decide_eq_false (by omega)
        have dm' : decide ((9 : Int) < (nn : Int)) = false := decide_eq_false (by omega)
        go_wp2_with fail
        go_roundw
        case rel => exact ⟨i + 1, by omega, by go_num, HR.out _⟩
        case measure => simp only [intOf]; omega
      · clear hprev
        replace c0 : wr.cell? ⟨g, i * 4, none⟩ = some (.int .u8 3) := c0
        replace c1 : wr.cell? ⟨g, i * 4 + 1, none⟩ = some (.string ⟨#[]⟩) := c1
        replace c2 : wr.cell? ⟨g, i * 4 + 2, none⟩ = some (.int .i64 0) := c2
        replace c3 : wr.cell? ⟨g, i * 4 + 3, none⟩ = some (.int .u8 0) := c3
        go_wp2_with fail
        go_roundw
        case rel => exact ⟨i + 1, by omega, by go_num, HR.out _⟩
        case measure => simp only [intOf]; omega
      · clear hprev
        rcases h5 with rfl | rfl | rfl | rfl | rfl
        · replace c0 : wr.cell? ⟨g, i * 4, none⟩ = some (.int .u8 4) := c0
          replace c1 : wr.cell? ⟨g, i * 4 + 1, none⟩ = some (.string ⟨#[]⟩) := c1
          replace c2 : wr.cell? ⟨g, i * 4 + 2, none⟩ = some (.int .i64 0) := c2
          replace c3 : wr.cell? ⟨g, i * 4 + 3, none⟩ = some (.int .u8 117) := c3
          go_wp2_with fail
          go_roundw
          case rel => exact ⟨i + 1, by omega, by go_num, HR.out _⟩
          case measure => simp only [intOf]; omega
        · replace c0 : wr.cell? ⟨g, i * 4, none⟩ = some (.int .u8 4) := c0
          replace c1 : wr.cell? ⟨g, i * 4 + 1, none⟩ = some (.string ⟨#[]⟩) := c1
          replace c2 : wr.cell? ⟨g, i * 4 + 2, none⟩ = some (.int .i64 0) := c2
          replace c3 : wr.cell? ⟨g, i * 4 + 3, none⟩ = some (.int .u8 108) := c3
          go_wp2_with fail
          go_roundw
          case rel => exact ⟨i + 1, by omega, by go_num, HR.out _⟩
          case measure => simp only [intOf]; omega
        · replace c0 : wr.cell? ⟨g, i * 4, none⟩ = some (.int .u8 4) := c0
          replace c1 : wr.cell? ⟨g, i * 4 + 1, none⟩ = some (.string ⟨#[]⟩) := c1
          replace c2 : wr.cell? ⟨g, i * 4 + 2, none⟩ = some (.int .i64 0) := c2
          replace c3 : wr.cell? ⟨g, i * 4 + 3, none⟩ = some (.int .u8 85) := c3
          go_wp2_with fail
          go_roundw
          case rel => exact ⟨i + 1, by omega, by go_num, HR.out _⟩
          case measure => simp only [intOf]; omega
        · replace c0 : wr.cell? ⟨g, i * 4, none⟩ = some (.int .u8 4) := c0
          replace c1 : wr.cell? ⟨g, i * 4 + 1, none⟩ = some (.string ⟨#[]⟩) := c1
          replace c2 : wr.cell? ⟨g, i * 4 + 2, none⟩ = some (.int .i64 0) := c2
          replace c3 : wr.cell? ⟨g, i * 4 + 3, none⟩ = some (.int .u8 76) := c3
          go_wp2_with fail
          go_roundw
          case rel => exact ⟨i + 1, by omega, by go_num, HR.out _⟩
          case measure => simp only [intOf]; omega
        · replace c0 : wr.cell? ⟨g, i * 4, none⟩ = some (.int .u8 4) := c0
          replace c1 : wr.cell? ⟨g, i * 4 + 1, none⟩ = some (.string ⟨#[]⟩) := c1
          replace c2 : wr.cell? ⟨g, i * 4 + 2, none⟩ = some (.int .i64 0) := c2
          replace c3 : wr.cell? ⟨g, i * 4 + 3, none⟩ = some (.int .u8 69) := c3
          go_wp2_with fail
          go_roundw
          case rel => exact ⟨i + 1, by omega, by go_num, HR.out _⟩
          case measure => simp only [intOf]; omega
    · obtain rfl : i = N := by omega
      have dl : decide ((i : Int) < (i : Int)) = false := by simp
      have de : decide ((i : Int) ≤ (n : Int)) = true := decide_eq_true (by omega)
      go_wp2_with fail
      go_ret
      exact ⟨rfl, kp_trans HT.out.2 HW.out⟩
end Go.Proofs.Ytbeaoonddlfcgaa
/- TmplParts: the walk. -/
namespace Go.Proofs.Ytbeaoonddlfcgaa
open Go.ChangeShapes Go.WideShapes Go.ChangeAt Go.RowKit Go.Shelf
set_option linter.unusedVariables false
set_option linter.unusedSimpArgs false
/-- Does a text end with a backslash alone? -/
def opn (o : Bool) : List UInt8 → Bool
  | [] => o
  | c :: t => opn (c == 92 && !o) t
theorem opn_snoc (l : List UInt8) (c : UInt8) (o : Bool) : opn o (l ++ [c]) = (c == 92 && !opn o l) := by
  induction l generalizing o with
  | nil => rfl
  | cons d l ih => simp only [List.cons_append, opn]; exact ih _
theorem sgns_append (s t : List UInt8) (h : opn false s = false) : sgns (s ++ t) = sgns s ++ sgns t := by
  fun_induction sgns s with
  | case1 => rfl
  | case2 c =>
    have : c ≠ 92 := fun q => by rw [q] at h; cases h
    rw [List.singleton_append, sgns_one (.inl this)]; rfl
  | case3 d s ih =>
    have h' : opn false s = false := by
      simp only [opn] at h
      simpa using h
    rw [List.cons_append, List.cons_append, sgns_esc, ih h']; rfl
  | case4 c d s h9 ih =>
    have h' : opn false (d :: s) = false := by
      have e : (c == 92) = false := by simpa using h9
      rw [opn, e] at h
      exact h
    rw [List.cons_append, sgns_one (.inl h9), ih h']; rfl
theorem layF_pre (X l : List Tm) (xs : List UInt8) : layF xs (X ++ l) = X ++ layF xs l := by
  unfold layF; split
  · rfl
  · rw [List.append_assoc]
theorem fold_pre (B : List (UInt8 × Bool)) (X l : List Tm) (xs : List UInt8) : B.foldl stepP (X ++ l, xs) = (X ++ (B.foldl stepP (l, xs)).1, (B.foldl stepP (l, xs)).2) := by
  induction B generalizing l xs with
  | nil => rfl
  | cons p B ih =>
    rw [List.foldl_cons, List.foldl_cons]
    have : stepP (X ++ l, xs) p = (X ++ (stepP (l, xs) p).1, (stepP (l, xs) p).2) := by
      unfold stepP
      split
      · simp only [layF_pre, List.append_assoc]
      · rfl
    rw [this, ih]
theorem parse_parts (s t : List UInt8) (d : UInt8) (h : opn false s = false) (hd : 48 ≤ d.toNat ∧ d.toNat ≤ 57) : parseF (s ++ 92 :: d :: t) = parseF s ++ [⟨2, [], d.toNat - 48, 0⟩] ++ parseF t := by
  have hp : pieceF (d, true) = some ⟨2, [], d.toNat - 48, 0⟩ := by simp [pieceF, hd]
  unfold parseF parL
  rw [sgns_append _ _ h, sgns_esc, List.foldl_append, List.foldl_cons]
  have hs : stepP ((sgns s).foldl stepP ([], [])) (d, true) = (layF ((sgns s).foldl stepP ([], [])).2 ((sgns s).foldl stepP ([], [])).1 ++ [⟨2, [], d.toNat - 48, 0⟩] ++ [], []) := by
    unfold stepP; rw [hp]; simp
  rw [hs, fold_pre, layF_pre]
end Go.Proofs.Ytbeaoonddlfcgaa
/- TmplParts: the walk. -/
namespace Go.Proofs.Ytbeaoonddlfcgaa
open Go.ChangeShapes Go.WideShapes Go.ChangeAt Go.RowKit Go.Shelf
set_option linter.unusedVariables false
set_option linter.unusedSimpArgs false
theorem one_str (W : World) (d : UInt8) (D : Int) (hD : D = (d.toNat : Int)) : (convert 25 9 (.slice (some ⟨W.heap.size, 0, none⟩) 1 1)).run Try.prog (W.alloc (.cells #[.int .u8 D] 5)) = .ok (.string ⟨#[d]⟩) (W.alloc (.cells #[.int .u8 D] 5)) := by
  subst hD
  refine run_convert_bytes_back _ 25 9 5 ⟨W.heap.size, 0, none⟩ 1 [d] Try.underlying25 Try.underlying5 Try.underlying9 fun j hj => ?_
  simp at hj
  subst hj
  rw [addr_add, cell_at (alloc_new W _)]
  rfl
set_option maxHeartbeats 4000000 in
set_option maxRecDepth 100000 in
theorem parts_walk (S L : ByteArray) (n : Nat) (hn : n < 256) (w : World) : Calls Try.prog 3 #[.string S, .string L, .int .u8 n] w fun e w' => e = .returned (.bool true) ∧ Kp w w' := by
  obtain ⟨ns, hns⟩ : ∃ n, S.size = n := ⟨_, rfl⟩
  obtain ⟨nl, hnl⟩ : ∃ m, L.size = m := ⟨_, rfl⟩
  by_cases hbig : 300 < ns
  · have d1 : decide ((ns : Int) > 300) = true := decide_eq_true (by omega)
    have d1' : decide ((300 : Int) < (ns : Int)) = true := decide_eq_true (by omega)
    go_enter Try.func3, Try.ntmps3
    go_wp2_with fail
    refine Calls.mono (known_any w) ?_
    rintro e w1 ⟨rfl, k1⟩
    go_wp2_with fail
    go_ret
    exact ⟨rfl, k1⟩
  have d1 : decide ((ns : Int) > 300) = false := decide_eq_false (by omega)
  have d1' : decide ((300 : Int) < (ns : Int)) = false := decide_eq_false (by omega)
  by_cases hbig2 : 300 < nl
  · have d2 : decide ((nl : Int) > 300) = true := decide_eq_true (by omega)
    have d2' : decide ((300 : Int) < (nl : Int)) = true := decide_eq_true (by omega)
    go_enter Try.func3, Try.ntmps3
    go_wp2_with fail
    refine Calls.mono (known_any w) ?_
    rintro e w1 ⟨rfl, k1⟩
    go_wp2_with fail
    go_ret
    exact ⟨rfl, k1⟩
  have d2 : decide ((nl : Int) > 300) = false := decide_eq_false (by omega)
  have d2' : decide ((300 : Int) < (nl : Int)) = false := decide_eq_false (by omega)
  have HX : Hid (S.size = ns ∧ L.size = nl) := ⟨hns, hnl⟩
  go_enter Try.func3, Try.ntmps3
  go_wp2_with fail
  refine Calls.mono (known_any w) ?_
  rintro e w1 ⟨rfl, k1⟩
  have HK : Hid (Kp w w1) := k1
  clear k1
  go_wp2_with fail
  go_loopw [7, 8] (fun v7 v8 wr => ∃ i : Nat, i ≤ ns ∧ v8 = .int .i64 i ∧ v7 = .bool (opn false (S.data.toList.take i)) ∧ wr = w1) (fun _ v8 _ => ns - (intOf v8).toNat)
  case atStart => exact ⟨0, Nat.zero_le _, rfl, rfl, rfl⟩
  case round =>
    obtain ⟨i, hi, rfl, rfl, rfl⟩ := hrel
    by_cases hlt : i < ns
    · have dl : decide ((i : Int) < (ns : Int)) = true := decide_eq_true (by omega)
      have hil : i < S.size := by rw [hns]; exact hlt
      obtain ⟨c, hc⟩ : ∃ c, S[i]'hil = c := ⟨_, rfl⟩
      have HT : Hid (opn false (S.data.toList.take (i + 1)) = (c == 92 && !opn false (S.data.toList.take i))) := by
        show _ = _
        rw [List.take_add_one, show S.data.toList[i]? = some c by rw [← hc, List.getElem?_eq_getElem (by simpa using hil)]; rfl]
        exact opn_snoc _ _ _
      by_cases h9 : c = 92
      · have hc' : (S[i]'hil).toNat = 92 := by rw [hc, h9]; rfl
        have hcc : (c == 92) = true := by simpa using h9
        rw [hcc] at HT
        cases hq : opn false (S.data.toList.take i) with
        | false =>
          rw [hq] at HT
          go_wp2_with fail
          go_roundw
          case rel => exact ⟨i + 1, by omega, by go_num, by rw [HT.out]; rfl, trivial⟩
          case measure => simp only [intOf]; omega
        | true =>
          rw [hq] at HT
          go_wp2_with fail
          go_roundw
          case rel => exact ⟨i + 1, by omega, by go_num, by rw [HT.out]; rfl, trivial⟩
          case measure => simp only [intOf]; omega
      · have h9' : c.toNat ≠ 92 := fun h => h9 (UInt8.toNat_inj.1 h)
        have e9 : ((c.toNat : Int) == 92) = false := by simp; omega
        have hcc : (c == 92) = false := by simpa using h9
        rw [hcc] at HT
        go_wp2_with fail
        go_roundw
        case rel => exact ⟨i + 1, by omega, by go_num, by rw [HT.out]; rfl, trivial⟩
        case measure => simp only [intOf]; omega
    · obtain rfl : i = ns := by omega
      have dl : decide ((i : Int) < (i : Int)) = false := by simp
      rw [List.take_of_length_le (by rw [← hns]; simp)]
      cases hq : opn false S.data.toList with
      | true =>
        go_wp2_with fail
        go_ret
        exact ⟨rfl, HK.out⟩
      | false =>
        obtain ⟨M, hM⟩ : ∃ M, n % 10 = M := ⟨_, rfl⟩
        have hM2 : (n : Int) % 10 = (M : Int) := by omega
        have hM10 : M < 10 := by omega
        obtain ⟨d, hd⟩ : ∃ d : UInt8, d.toNat = 48 + M := ⟨UInt8.ofNat (48 + M), by rw [UInt8.toNat_ofNat']; omega⟩
        obtain ⟨A, hA⟩ : ∃ A, parseF S.data.toList = A := ⟨_, rfl⟩
        obtain ⟨B, hB⟩ : ∃ B, parseF L.data.toList = B := ⟨_, rfl⟩
        have hC := parse_parts S.data.toList L.data.toList d hq (by omega)
        rw [hA, hB, show d.toNat - 48 = M by omega] at hC
        obtain ⟨Z, hZ⟩ : ∃ Z : ByteArray, (⟨(S.data.toList ++ 92 :: d :: L.data.toList).toArray⟩ : ByteArray) = Z := ⟨_, rfl⟩
        obtain ⟨Y, hY⟩ : ∃ Y : ByteArray, (⟨(S.data.toList ++ [92]).toArray⟩ : ByteArray) = Y := ⟨_, rfl⟩
        obtain ⟨X, hXX⟩ : ∃ X : ByteArray, (⟨(S.data.toList ++ [92] ++ [d]).toArray⟩ : ByteArray) = X := ⟨_, rfl⟩
        have hs1 : S.data.toList.length ≤ 300 := by have := HX.out.1; simp; omega
        have hs2 : L.data.toList.length ≤ 300 := by have := HX.out.2; simp; omega
        have ct1 : ∀ W, (Op.stringOp .add S ⟨#[92]⟩).run Try.prog W = .ok (.string Y) W := fun W => by
          have := catS (x := S.data.toList) (y := [92]) rfl (by simp; omega) W
          rw [ba_list, hY] at this
          exact this
        have ct2 : ∀ W, (Op.stringOp .add Y ⟨#[d]⟩).run Try.prog W = .ok (.string X) W := fun W => by
          have := catS (x := S.data.toList ++ [92]) (y := [d]) rfl (by simp; omega) W
          rw [hY, hXX] at this
          exact this
        have ct3 : ∀ W, (Op.stringOp .add X L).run Try.prog W = .ok (.string Z) W := fun W => by
          have := catS (x := S.data.toList ++ [92] ++ [d]) (y := L.data.toList) (z := S.data.toList ++ 92 :: d :: L.data.toList) (by simp) (by simp; omega) W
          rw [ba_list, hZ, hXX] at this
          exact this
        have HPs : Hid (∀ w, Calls Try.prog 9 #[.string S] w fun e w' => ∃ a cap, e = .returned (.slice a A.length cap) ∧ Tms (.slice a A.length cap) A w' ∧ Kp w w' ∧ A.length ≤ cap ∧ cap ≤ maxLen) := fun w => parse_tms S (by have := HX.out.1; omega) A hA w
        have HPl : Hid (∀ w, Calls Try.prog 9 #[.string L] w fun e w' => ∃ a cap, e = .returned (.slice a B.length cap) ∧ Tms (.slice a B.length cap) B w' ∧ Kp w w' ∧ B.length ≤ cap ∧ cap ≤ maxLen) := fun w => parse_tms L (by have := HX.out.2; omega) B hB w
        obtain ⟨Cl, hCl⟩ : ∃ Cl : List Tm, A ++ [⟨2, [], M, 0⟩] ++ B = Cl := ⟨_, rfl⟩
        rw [hCl] at hC
        have HPz : Hid (∀ w, Calls Try.prog 9 #[.string Z] w fun e w' => ∃ a cap, e = .returned (.slice a Cl.length cap) ∧ Tms (.slice a Cl.length cap) Cl w' ∧ Kp w w' ∧ Cl.length ≤ cap ∧ cap ≤ maxLen) := fun w => parse_tms Z (by rw [← hZ]; show (S.data.toList ++ 92 :: d :: L.data.toList).toArray.size ≤ _; simp only [List.size_toArray, List.length_append, List.length_cons]; omega) _ (by rw [← hZ]; exact hC) w
        have hAl : A.length ≤ 300 := by have := parseF_len S.data.toList; rw [hA] at this; omega
        have hBl : B.length ≤ 300 := by have := parseF_len L.data.toList; rw [hB] at this; omega
        have hcl : Cl.length = A.length + 1 + B.length := by rw [← hCl]; simp; omega
        rw [hcl] at HPz
        obtain ⟨NA, hNA⟩ : ∃ NA, A.length = NA := ⟨_, rfl⟩
        obtain ⟨NB, hNB⟩ : ∃ NB, B.length = NB := ⟨_, rfl⟩
        have HN : Hid (A.length = NA ∧ B.length = NB ∧ A ++ [⟨2, [], M, 0⟩] ++ B = Cl) := ⟨hNA, hNB, hCl⟩
        rw [hNA] at HPs HPz hAl
        rw [hNB] at HPl HPz hBl
        clear hA hB hC hCl hZ hY hXX hs1 hs2 hcl hNA hNB hq hM hi hlt
        have kc := fun W => one_str W d (48 + (M : Int)) (by omega)
        clear hd
        go_wp2_with fail
        refine Calls.mono (HPs.out _) ?_
        rintro e w2 ⟨a1, cap1, rfl, hT1, k1, p1, p2⟩
        have H1 : Hid (Tms (.slice a1 NA cap1) A w2 ∧ Kp w w2) := ⟨hT1, kp_trans HK.out k1⟩
        clear hT1 k1 HK HPs
        go_wp2_with fail
        refine Calls.mono (HPl.out _) ?_
        rintro e w3 ⟨a2, cap2, rfl, hT2, k2, p3, p4⟩
        have H2 : Hid (Tms (.slice a1 NA cap1) A w3 ∧ Tms (.slice a2 NB cap2) B w3 ∧ Kp w w3) := ⟨H1.out.1.kp k2, hT2, kp_trans H1.out.2 k2⟩
        clear hT2 k2 H1 HPl
        go_wp2_with fail
        refine Calls.mono (HPz.out _) ?_
        rintro e w4 ⟨a3, cap3, rfl, hT3, k3, p5, p6⟩
        have H3 : Hid (Tms (.slice a1 NA cap1) A w4 ∧ Tms (.slice a2 NB cap2) B w4 ∧ Tms (.slice a3 (NA + 1 + NB) cap3) Cl w4 ∧ Kp w w4) := by
          have k := kp_trans (kp_alloc _ _) k3
          exact ⟨H2.out.1.kp k, H2.out.2.1.kp k, hT3, kp_trans H2.out.2.2 k⟩
        clear hT3 k3 H2 HPz ct1 ct2 ct3 kc
        unfold maxLen at p2 p4 p6
        go_wp2_with fail
        go_loopw [12] (fun v12 wr => ∃ i : Nat, i ≤ NA + 1 + NB ∧ v12 = .int .i64 i ∧ Hid (Kp w4 wr)) (fun v12 _ => NA + 1 + NB - (intOf v12).toNat)
        case atStart => exact ⟨0, Nat.zero_le _, rfl, Below.refl _ _⟩
        case round =>
          obtain ⟨k, hi, rfl, HW⟩ := hrel
          by_cases hlt : k < NA + 1 + NB
          · have dl : decide ((k : Int) < (NA : Int) + 1 + (NB : Int)) = true := decide_eq_true (by omega)
            obtain ⟨hA, hB, hC⟩ := HN.out
            have hCi : k < Cl.length := by rw [← hC]; simp; omega
            obtain ⟨t, ht⟩ : ∃ t, Cl[k]'hCi = t := ⟨_, rfl⟩
            have hti : Cl[k]? = some t := by rw [List.getElem?_eq_getElem hCi, ht]
            obtain ⟨g, rfl, c0, c1, c2, c3⟩ := (H3.out.2.2.1.kp HW.out).at hti
            clear ht
            by_cases h1 : k < NA
            · have e1 : decide ((k : Int) < (NA : Int)) = true := decide_eq_true (by omega)
              have e2 : decide ((k : Int) > (NA : Int)) = false := decide_eq_false (by omega)
              have e2' : decide ((NA : Int) < (k : Int)) = false := decide_eq_false (by omega)
              rw [← hC, List.getElem?_append_left (by simp; omega), List.getElem?_append_left (by omega)] at hti
              obtain ⟨g', rfl, y0, y1, y2, y3⟩ := (H3.out.1.kp HW.out).at hti
              clear hti hA hB hC
              obtain ⟨kd, tx, nn, cc⟩ := t
              obtain ⟨X, hX⟩ : ∃ X : ByteArray, (⟨tx.toArray⟩ : ByteArray) = X := ⟨_, rfl⟩
              simp only [hX] at c0 c1 c2 c3 y0 y1 y2 y3
              clear hX
              have z0 := kp_cell (kp_alloc wr (.cells #[.int .u8 2, .string ⟨#[]⟩, .int .i64 M, .int .u8 0] 27)) y0
              have z1 := kp_cell (kp_alloc wr (.cells #[.int .u8 2, .string ⟨#[]⟩, .int .i64 M, .int .u8 0] 27)) y1
              have z2 := kp_cell (kp_alloc wr (.cells #[.int .u8 2, .string ⟨#[]⟩, .int .i64 M, .int .u8 0] 27)) y2
              have z3 := kp_cell (kp_alloc wr (.cells #[.int .u8 2, .string ⟨#[]⟩, .int .i64 M, .int .u8 0] 27)) y3
              have x0 := kp_cell (kp_alloc wr (.cells #[.int .u8 kd, .string X, .int .i64 nn, .int .u8 cc] 27)) c0
              have x1 := kp_cell (kp_alloc wr (.cells #[.int .u8 kd, .string X, .int .i64 nn, .int .u8 cc] 27)) c1
              have x2 := kp_cell (kp_alloc wr (.cells #[.int .u8 kd, .string X, .int .i64 nn, .int .u8 cc] 27)) c2
              have x3 := kp_cell (kp_alloc wr (.cells #[.int .u8 kd, .string X, .int .i64 nn, .int .u8 cc] 27)) c3
              clear c0 c1 c2 c3 y0 y1 y2 y3
              go_upto_region 23 with fail
              go_quiet (fail)
              go_wp2_with fail
              go_roundw
              case rel => exact ⟨k + 1, by omega, by go_num, kp_trans HW.out (kp_trans (kp_alloc _ _) (by first | exact Below.refl _ _ | exact kp_drew _ | exact kp_drewN _ _))⟩
              case measure => simp only [intOf]; omega
            · have e1 : decide ((k : Int) < (NA : Int)) = false := decide_eq_false (by omega)
              by_cases h2 : k = NA
              · subst h2
                have e2 : decide ((k : Int) > (k : Int)) = false := by simp
                rw [← hC, List.getElem?_append_left (by simp; omega), List.getElem?_append_right (by omega), hA, Nat.sub_self] at hti
                simp only [List.getElem?_cons_zero, Option.some.injEq] at hti
                subst hti
                clear hA hB hC e1 h1
                have x0 := kp_cell (kp_alloc wr (.cells #[.int .u8 2, .string ⟨#[]⟩, .int .i64 M, .int .u8 0] 27)) c0
                have x1 := kp_cell (kp_alloc wr (.cells #[.int .u8 2, .string ⟨#[]⟩, .int .i64 M, .int .u8 0] 27)) c1
                have x2 := kp_cell (kp_alloc wr (.cells #[.int .u8 2, .string ⟨#[]⟩, .int .i64 M, .int .u8 0] 27)) c2
                have x3 := kp_cell (kp_alloc wr (.cells #[.int .u8 2, .string ⟨#[]⟩, .int .i64 M, .int .u8 0] 27)) c3
                clear c0 c1 c2 c3
                go_upto_region 23 with fail
                go_quiet (fail)
                go_wp2_with fail
                go_roundw
                case rel => exact ⟨k + 1, by omega, by go_num, kp_trans HW.out (kp_trans (kp_alloc _ _) (by first | exact Below.refl _ _ | exact kp_drew _ | exact kp_drewN _ _))⟩
                case measure => simp only [intOf]; omega
              · have e2 : decide ((k : Int) > (NA : Int)) = true := decide_eq_true (by omega)
                have e2' : decide ((NA : Int) < (k : Int)) = true := decide_eq_true (by omega)
                obtain ⟨j, hkj⟩ : ∃ j, k = NA + 1 + j := ⟨k - NA - 1, by omega⟩
                have ej : (k : Int) - (NA : Int) - 1 = (j : Int) := by omega
                have hj1 : 0 ≤ (j : Int) ∧ (j : Int) < (NB : Int) := by omega
                rw [← hC, List.getElem?_append_right (by simp; omega), show k - (A ++ [(⟨2, [], M, 0⟩ : Tm)]).length = j by simp; omega] at hti
                obtain ⟨g', rfl, y0, y1, y2, y3⟩ := (H3.out.2.1.kp HW.out).at hti
                clear hti hA hB hC
                obtain ⟨kd, tx, nn, cc⟩ := t
                obtain ⟨X, hX⟩ : ∃ X : ByteArray, (⟨tx.toArray⟩ : ByteArray) = X := ⟨_, rfl⟩
                simp only [hX] at c0 c1 c2 c3 y0 y1 y2 y3
                clear hX
                have z0 := kp_cell (kp_alloc wr (.cells #[.int .u8 2, .string ⟨#[]⟩, .int .i64 M, .int .u8 0] 27)) y0
                have z1 := kp_cell (kp_alloc wr (.cells #[.int .u8 2, .string ⟨#[]⟩, .int .i64 M, .int .u8 0] 27)) y1
                have z2 := kp_cell (kp_alloc wr (.cells #[.int .u8 2, .string ⟨#[]⟩, .int .i64 M, .int .u8 0] 27)) y2
                have z3 := kp_cell (kp_alloc wr (.cells #[.int .u8 2, .string ⟨#[]⟩, .int .i64 M, .int .u8 0] 27)) y3
                have x0 := kp_cell (kp_alloc wr (.cells #[.int .u8 kd, .string X, .int .i64 nn, .int .u8 cc] 27)) c0
                have x1 := kp_cell (kp_alloc wr (.cells #[.int .u8 kd, .string X, .int .i64 nn, .int .u8 cc] 27)) c1
                have x2 := kp_cell (kp_alloc wr (.cells #[.int .u8 kd, .string X, .int .i64 nn, .int .u8 cc] 27)) c2
                have x3 := kp_cell (kp_alloc wr (.cells #[.int .u8 kd, .string X, .int .i64 nn, .int .u8 cc] 27)) c3
                clear c0 c1 c2 c3 y0 y1 y2 y3
                clear hkj
                go_upto_region 23 with fail
                go_quiet (fail)
                go_wp2_with fail
                go_roundw
                case rel => exact ⟨k + 1, by omega, by go_num, kp_trans HW.out (kp_trans (kp_alloc _ _) (by first | exact Below.refl _ _ | exact kp_drew _ | exact kp_drewN _ _))⟩
                case measure => simp only [intOf]; omega
          · obtain rfl : k = NA + 1 + NB := by omega
            have dl : decide (((NA + 1 + NB : Nat) : Int) < (NA : Int) + 1 + (NB : Int)) = false := decide_eq_false (by omega)
            go_wp2_with fail
            go_ret
            exact ⟨rfl, kp_trans H3.out.2.2.2 HW.out⟩
end Go.Proofs.Ytbeaoonddlfcgaa
/- The document's pieces: its call text. -/
namespace Go.Proofs.Ytbeaoonddlfcgaa
open Go.ChangeShapes Go.WideShapes Go.ChangeAt Go.RowKit Go.Shelf
set_option linter.unusedVariables false
set_option linter.unusedSimpArgs false
/-- A list of pieces of one's own. -/
def Rw (B : Nat) (v : Value) (l : List Tm) (w : World) : Prop := w.ownsRow B 27 4 v l.length (flatT l)
/-- What a call that goes on with a list answers. -/
def RetT (B : Nat) (v : Value) (l : List Tm) (w : World) (e : Ending) (w' : World) : Prop := ∃ a n cap, e = .returned (.slice a n cap) ∧ Rw B (.slice a n cap) l w' ∧ Fr (fun k => v.ownBlock = some k) w w'
theorem row_text {B g m cap : Nat} {l0 : List Tm} {xs z : List UInt8} {w : World} (hm : l0.length = m) (h : w.ownsRow B 27 4 (.slice (some ⟨g, 0, none⟩) (m + 1) cap) (m + 1) (flatT (l0 ++ [⟨1, xs, 0, 0⟩]))) :
    (w.setCell ⟨g, m * 4 + 1, none⟩ (.string ⟨z.toArray⟩)).ownsRow B 27 4 (.slice (some ⟨g, 0, none⟩) (m + 1) cap) (m + 1) (flatT (l0 ++ [⟨1, z, 0, 0⟩])) := by
  refine ⟨by rw [flatT_len]; simp [hm], ?_⟩
  rcases h.2 with ⟨q, _⟩ | ⟨g', cap', cur, e, hb, hg, h1, h2, h3, h4⟩
  · cases q
  · injection e with e1 e2 e3
    injection e1 with e1
    injection e1 with e1
    subst e1 e3
    refine .inr ⟨g, cap, cur.setIfInBounds (m * 4 + 1) (.string ⟨z.toArray⟩), rfl, hb, heap_setCell hg, h1, h2, by simpa using h3, ?_⟩
    rw [Array.toList_setIfInBounds, List.take_set, h4, flatT_append, flatT_append, List.set_append_right _ _ (by rw [flatT_len]; omega), flatT_len, hm, show m * 4 + 1 - m * 4 = 1 by omega]
    rfl
section
variable {B : Nat} {l : List Tm} {v : Value} {w : World}
set_option maxHeartbeats 2000000 in
theorem text_more {l0 : List Tm} {xs s : List UInt8} (h : Rw B v (l0 ++ [⟨1, xs, 0, 0⟩]) w) (hb : xs.length + s.length ≤ 8000000) (hl : l0.length ≤ 1000000) :
    Calls Try.prog 20 #[v, .string ⟨s.toArray⟩] w (RetT B v (l0 ++ [⟨1, xs ++ s, 0, 0⟩]) w) := by
  obtain ⟨m, hm⟩ : ∃ m, l0.length = m := ⟨_, rfl⟩
  have hr : w.ownsRow B 27 4 v (m + 1) (flatT (l0 ++ [⟨1, xs, 0, 0⟩])) := by
    have := h
    unfold Rw at this
    rw [List.length_append, hm] at this
    exact this
  obtain ⟨g, cap, rfl⟩ := ownsRow_succ hr
  obtain ⟨g', eg, c0, c1, c2, c3⟩ := Tms.at (l := l0 ++ [⟨1, xs, 0, 0⟩]) (a := some ⟨g, 0, none⟩) (n := m + 1) (cap := cap) ⟨B, by rw [List.length_append, hm]; exact hr⟩ (i := m) (t := ⟨1, xs, 0, 0⟩) (by rw [List.getElem?_append_right (by omega), hm, Nat.sub_self]; rfl)
  injection eg with eg
  injection eg with eg
  subst eg
  obtain ⟨a4, a3, ea, q1, q2⟩ := owns_form hr
  injection ea with ea1 ea2 ea
  subst ea
  have f1 : w.frozen? ⟨g, m * 4 + 1, none⟩ = false := by
    rcases hr.2 with ⟨q, _⟩ | ⟨g', cap', cur, e, hb, hg, h1, h2, h3, h4⟩
    · cases q
    · injection e with e1 e2 e3
      injection e1 with e1
      injection e1 with e1
      subst e1
      simp [World.frozen?, hg]
  have ct : ∀ W, (Op.stringOp .add ⟨xs.toArray⟩ ⟨s.toArray⟩).run Try.prog W = .ok (.string ⟨(xs ++ s).toArray⟩) W := fun W => catS rfl (by rw [List.length_append]; omega) W
  have HE : Hid (RetT B (.slice (some ⟨g, 0, none⟩) (m + 1) cap) (l0 ++ [⟨1, xs ++ s, 0, 0⟩]) w (.returned (.slice (some ⟨g, 0, none⟩) (m + 1) cap)) (w.setCell ⟨g, m * 4 + 1, none⟩ (.string ⟨(xs ++ s).toArray⟩))) := by
    refine ⟨_, _, _, rfl, ?_, Fr.setCell (S := fun k => (Value.slice (some ⟨g, 0, none⟩) (m + 1) cap).ownBlock = some k) rfl w⟩
    have := row_text (z := xs ++ s) hm hr
    unfold Rw
    rw [List.length_append, hm]
    exact this
  obtain ⟨X, hX⟩ : ∃ X : ByteArray, (⟨xs.toArray⟩ : ByteArray) = X := ⟨_, rfl⟩
  obtain ⟨Y, hY⟩ : ∃ Y : ByteArray, (⟨s.toArray⟩ : ByteArray) = Y := ⟨_, rfl⟩
  obtain ⟨Z, hZ⟩ : ∃ Z : ByteArray, (⟨(xs ++ s).toArray⟩ : ByteArray) = Z := ⟨_, rfl⟩
  simp only [hX] at c0 c1 c2 c3
  rw [hX, hY, hZ] at ct
  rw [hZ] at HE
  rw [hY]
  have dm : decide ((m : Int) + 1 > 0) = true := decide_eq_true (by omega)
  unfold maxLen at q2
  clear hX hY hZ h hr ea1 ea2 hm c2 c3
  go_enter Try.func20, Try.ntmps20
  go_wp2_with fail
  go_ret
  exact HE.out
set_option maxHeartbeats 2000000 in
theorem text_add {s : List UInt8} (h : Rw B v l w) (hn : B ≤ w.heap.size) (hl : l.length ≤ 1000000) (hs : Shut l) :
    Calls Try.prog 20 #[v, .string ⟨s.toArray⟩] w (RetT B v (l ++ [⟨1, s, 0, 0⟩]) w) := by
  obtain ⟨i9, hi9, z0, z1, z2⟩ := info_parts infoTm
  obtain ⟨N, hN⟩ : ∃ N, l.length = N := ⟨_, rfl⟩
  have hr : w.ownsRow B 27 4 v N (flatT l) := by rw [← hN]; exact h
  obtain ⟨b1, b2, rfl, q1, q2⟩ := owns_form hr
  obtain ⟨Y, hY⟩ : ∃ Y : ByteArray, (⟨s.toArray⟩ : ByteArray) = Y := ⟨_, rfl⟩
  have HR : Hid ((w.alloc (.cells #[.int .u8 1, .string Y, .int .i64 0, .int .u8 0] 27)).ownsRow B 27 4 (.slice b1 N b2) N (flatT l)) := row_kp hr (kp_alloc _ _)
  have HB : Hid (B ≤ (w.alloc (.cells #[.int .u8 1, .string Y, .int .i64 0, .int .u8 0] 27)).heap.size) := by rw [alloc_size]; exact Nat.le_succ_of_le hn
  have HC : Hid (∀ j u, (Tm.cells ⟨1, s, 0, 0⟩)[j]? = some u → (w.alloc (.cells #[.int .u8 1, .string Y, .int .i64 0, .int .u8 0] 27)).cell? ((⟨w.heap.size, 0, none⟩ : Addr).add j) = some u) := by
    rw [← hY]
    exact tm_news (t := ⟨1, s, 0, 0⟩) (alloc_new w (.cells #[.int .u8 1, .string ⟨s.toArray⟩, .int .i64 0, .int .u8 0] 27))
  have HT : Hid _ := tm_one ⟨1, s, 0, 0⟩
  have HE : Hid (∀ g cap w1, w1.ownsRow B 27 4 (.slice (some ⟨g, 0, none⟩) (N + 1) cap) (N + 1) (flatT l ++ Tm.cells ⟨1, s, 0, 0⟩) → (w.alloc (.cells #[.int .u8 1, .string Y, .int .i64 0, .int .u8 0] 27)).grownBy w1 (Value.slice b1 N b2).ownBlock → RetT B (.slice b1 N b2) (l ++ [⟨1, s, 0, 0⟩]) w (.returned (.slice (some ⟨g, 0, none⟩) (N + 1) cap)) w1) := by
    intro g cap w1 r1 r2
    refine ⟨_, _, _, rfl, ?_, ⟨r2.os, r2.tape, r2.output, Nat.le_trans (by rw [alloc_size]; omega) r2.size, fun k hk q => ?_⟩⟩
    · unfold Rw
      rw [List.length_append, hN, flatT_append]
      simpa [flatT] using r1
    · rw [r2.block k (by rw [alloc_size]; omega) fun e => q e.symm]
      exact alloc_old w _ k hk
  have hN6 : N ≤ 1000000 := by omega
  have hcase : N = 0 ∨ ∃ m g k, N = m + 1 ∧ b1 = some ⟨g, 0, none⟩ ∧ k ≠ 1 ∧ w.cell? ⟨g, m * 4, none⟩ = some (.int .u8 (k : Nat)) := by
    cases N with
    | zero => exact .inl rfl
    | succ m =>
      have hml : m < l.length := by omega
      obtain ⟨t, ht⟩ : ∃ t, l[m]'hml = t := ⟨_, rfl⟩
      have hti : l[m]? = some t := by rw [List.getElem?_eq_getElem hml, ht]
      obtain ⟨g, eg, c0, _⟩ := Tms.at (a := b1) (n := m + 1) (cap := b2) (l := l) ⟨B, by rw [hN]; exact hr⟩ hti
      refine .inr ⟨m, g, t.kd, rfl, eg, hs t ?_, c0⟩
      rw [List.getLast?_eq_getElem?, hN]
      exact hti
  rw [hY]
  unfold maxLen at q2
  clear h hr hN hs hY hl
  rcases hcase with rfl | ⟨m, g, k, rfl, rfl, hk, c0⟩
  · go_enter Try.func20, Try.ntmps20
    go_wp2_with (at_builtin; refine wpList_append_lies _ rfl (.tmp 33) (.tmp 36) 23 rfl B 27 i9 _ 4 40 Try.underlying23 hi9 z0 z1 z2 rfl (by decide) (.slice b1 0 b2) 0 (flatT l) rfl HR.out ⟨w.heap.size, 0, none⟩ 1 1 (Tm.cells ⟨1, s, 0, 0⟩) rfl rfl HC.out HT.out (by omega) (by unfold maxLen; omega) (by omega) HB.out (w.heap.size + 1) (alloc_size _ _) ?_; intro g cap w1 r1 r2 r3 r4; have HP : Hid _ := HE.out g cap w1 r1 r2; clear r1 r2 r3 r4)
    go_ret
    exact HP.out
  · have ek : ((k : Int) == 1) = false := by simp; omega
    have dm : decide ((m : Int) + 1 > 0) = true := decide_eq_true (by omega)
    clear hk
    go_enter Try.func20, Try.ntmps20
    go_wp2_with (at_builtin; refine wpList_append_lies _ rfl (.tmp 33) (.tmp 36) 23 rfl B 27 i9 _ 4 40 Try.underlying23 hi9 z0 z1 z2 rfl (by decide) (.slice (some ⟨g, 0, none⟩) (m + 1) b2) (m + 1) (flatT l) rfl HR.out ⟨w.heap.size, 0, none⟩ 1 1 (Tm.cells ⟨1, s, 0, 0⟩) rfl rfl HC.out HT.out (by omega) (by unfold maxLen; omega) (by omega) HB.out (w.heap.size + 1) (alloc_size _ _) ?_; intro g cap w1 r1 r2 r3 r4; have HP : Hid _ := HE.out g cap w1 r1 r2; clear r1 r2 r3 r4)
    go_ret
    exact HP.out
/-- The text that is under way goes on. -/
theorem text_any {xs s : List UInt8} (h : Rw B v (layF xs l) w) (hn : B ≤ w.heap.size) (hl : l.length ≤ 2000) (hx : xs.length + s.length ≤ 8000000) (hs : Shut l) (h0 : s ≠ []) :
    Calls Try.prog 20 #[v, .string ⟨s.toArray⟩] w (RetT B v (layF (xs ++ s) l) w) := by
  have hne : xs ++ s ≠ [] := fun q => h0 (List.append_eq_nil_iff.1 q).2
  unfold layF at h ⊢
  rw [if_neg hne]
  by_cases hq : xs = []
  · subst hq
    rw [if_pos rfl] at h
    exact text_add h hn (by omega) hs
  · rw [if_neg hq] at h
    exact text_more h hx (by omega)
end
end Go.Proofs.Ytbeaoonddlfcgaa
/- The document's pieces: its call slash. -/
namespace Go.Proofs.Ytbeaoonddlfcgaa
open Go.ChangeShapes Go.WideShapes Go.ChangeAt Go.RowKit Go.Shelf
set_option linter.unusedVariables false
set_option linter.unusedSimpArgs false
/-- A piece more, behind an append: what is to be shown. -/
theorem push_ret {B N b2 : Nat} {b1 : Option Addr} {l : List Tm} {t : Tm} {w w1 : World} {ob : Obj} {g cap : Nat} (hN : l.length = N) (r1 : w1.ownsRow B 27 4 (.slice (some ⟨g, 0, none⟩) (N + 1) cap) (N + 1) (flatT l ++ t.cells)) (r2 : (w.alloc ob).grownBy w1 (Value.slice b1 N b2).ownBlock) :
    RetT B (.slice b1 N b2) (l ++ [t]) w (.returned (.slice (some ⟨g, 0, none⟩) (N + 1) cap)) w1 := by
  refine ⟨_, _, _, rfl, ?_, ⟨r2.os, r2.tape, r2.output, Nat.le_trans (by rw [alloc_size]; omega) r2.size, fun k hk q => ?_⟩⟩
  · unfold Rw
    rw [List.length_append, hN, flatT_append]
    simpa [flatT] using r1
  · rw [r2.block k (by rw [alloc_size]; omega) fun e => q e.symm]
    exact alloc_old w _ k hk
section
variable {B : Nat} {l : List Tm} {v : Value} {w : World}
set_option maxHeartbeats 2000000 in
theorem slash_dig (c : Nat) (hc : 48 ≤ c ∧ c ≤ 57) (h : Rw B v l w) (hn : B ≤ w.heap.size) (hl : l.length ≤ 1000000) :
    Calls Try.prog 19 #[v, .int .u8 c] w (RetT B v (l ++ [⟨2, [], c - 48, 0⟩]) w) := by
  obtain ⟨i9, hi9, z0, z1, z2⟩ := info_parts infoTm
  obtain ⟨N, hN⟩ : ∃ N, l.length = N := ⟨_, rfl⟩
  have hr : w.ownsRow B 27 4 v N (flatT l) := by rw [← hN]; exact h
  obtain ⟨b1, b2, rfl, q1, q2⟩ := owns_form hr
  have HR : Hid ((w.alloc (.cells #[.int .u8 2, .string ⟨#[]⟩, .int .i64 ((c : Int) - 48), .int .u8 0] 27)).ownsRow B 27 4 (.slice b1 N b2) N (flatT l)) := row_kp hr (kp_alloc _ _)
  have HB : Hid (B ≤ (w.alloc (.cells #[.int .u8 2, .string ⟨#[]⟩, .int .i64 ((c : Int) - 48), .int .u8 0] 27)).heap.size) := by rw [alloc_size]; exact Nat.le_succ_of_le hn
  have HC : Hid (∀ j u, (Tm.cells ⟨2, [], c - 48, 0⟩)[j]? = some u → (w.alloc (.cells #[.int .u8 2, .string ⟨#[]⟩, .int .i64 ((c : Int) - 48), .int .u8 0] 27)).cell? ((⟨w.heap.size, 0, none⟩ : Addr).add j) = some u) := by
    have e : (.cells #[.int .u8 2, .string ⟨#[]⟩, .int .i64 ((c : Int) - 48), .int .u8 0] 27 : Obj) = .cells (Tm.cells ⟨2, [], c - 48, 0⟩).toArray 27 (0, 0) := by rw [show ((c : Int) - 48) = ((c - 48 : Nat) : Int) by omega]; rfl
    rw [e]
    exact tm_news (alloc_new w _)
  have HT : Hid _ := tm_one ⟨2, [], c - 48, 0⟩
  have HE : Hid (∀ g cap w1, w1.ownsRow B 27 4 (.slice (some ⟨g, 0, none⟩) (N + 1) cap) (N + 1) (flatT l ++ Tm.cells ⟨2, [], c - 48, 0⟩) → (w.alloc (.cells #[.int .u8 2, .string ⟨#[]⟩, .int .i64 ((c : Int) - 48), .int .u8 0] 27)).grownBy w1 (Value.slice b1 N b2).ownBlock → RetT B (.slice b1 N b2) (l ++ [⟨2, [], c - 48, 0⟩]) w (.returned (.slice (some ⟨g, 0, none⟩) (N + 1) cap)) w1) := fun g cap w1 r1 r2 => push_ret hN r1 r2
  have hN6 : N ≤ 1000000 := by omega
  unfold maxLen at q2
  clear h hr hN hl
  have d1 : decide ((c : Int) ≥ 48) = true := decide_eq_true (by omega)
  have d1' : decide ((48 : Int) ≤ (c : Int)) = true := decide_eq_true (by omega)
  have d2 : decide ((c : Int) ≤ 57) = true := decide_eq_true (by omega)
  have d3 : (48 : Int) ≤ (c : Int) ∧ (c : Int) ≤ 57 := by omega
  go_enter Try.func19, Try.ntmps19
  go_wp2_with (at_builtin; refine wpList_append_lies _ rfl (.tmp 12) (.tmp 17) 23 rfl B 27 i9 _ 4 40 Try.underlying23 hi9 z0 z1 z2 rfl (by decide) (.slice b1 N b2) N (flatT l) rfl HR.out ⟨w.heap.size, 0, none⟩ 1 1 (Tm.cells ⟨2, [], c - 48, 0⟩) rfl rfl HC.out HT.out (by omega) (by unfold maxLen; omega) (by omega) HB.out (w.heap.size + 1) (alloc_size _ _) ?_; intro g cap w1 r1 r2 r3 r4; have HP : Hid _ := HE.out g cap w1 r1 r2; clear r1 r2 r3 r4)
  go_ret
  exact HP.out
set_option maxHeartbeats 2000000 in
theorem slash_r  (h : Rw B v l w) (hn : B ≤ w.heap.size) (hl : l.length ≤ 1000000) :
    Calls Try.prog 19 #[v, .int .u8 114] w (RetT B v (l ++ [⟨3, [], 0, 0⟩]) w) := by
  obtain ⟨i9, hi9, z0, z1, z2⟩ := info_parts infoTm
  obtain ⟨N, hN⟩ : ∃ N, l.length = N := ⟨_, rfl⟩
  have hr : w.ownsRow B 27 4 v N (flatT l) := by rw [← hN]; exact h
  obtain ⟨b1, b2, rfl, q1, q2⟩ := owns_form hr
  have HR : Hid ((w.alloc (.cells #[.int .u8 3, .string ⟨#[]⟩, .int .i64 0, .int .u8 0] 27)).ownsRow B 27 4 (.slice b1 N b2) N (flatT l)) := row_kp hr (kp_alloc _ _)
  have HB : Hid (B ≤ (w.alloc (.cells #[.int .u8 3, .string ⟨#[]⟩, .int .i64 0, .int .u8 0] 27)).heap.size) := by rw [alloc_size]; exact Nat.le_succ_of_le hn
  have HC : Hid (∀ j u, (Tm.cells ⟨3, [], 0, 0⟩)[j]? = some u → (w.alloc (.cells #[.int .u8 3, .string ⟨#[]⟩, .int .i64 0, .int .u8 0] 27)).cell? ((⟨w.heap.size, 0, none⟩ : Addr).add j) = some u) := by
    have e : (.cells #[.int .u8 3, .string ⟨#[]⟩, .int .i64 0, .int .u8 0] 27 : Obj) = .cells (Tm.cells ⟨3, [], 0, 0⟩).toArray 27 (0, 0) := by rfl
    rw [e]
    exact tm_news (alloc_new w _)
  have HT : Hid _ := tm_one ⟨3, [], 0, 0⟩
  have HE : Hid (∀ g cap w1, w1.ownsRow B 27 4 (.slice (some ⟨g, 0, none⟩) (N + 1) cap) (N + 1) (flatT l ++ Tm.cells ⟨3, [], 0, 0⟩) → (w.alloc (.cells #[.int .u8 3, .string ⟨#[]⟩, .int .i64 0, .int .u8 0] 27)).grownBy w1 (Value.slice b1 N b2).ownBlock → RetT B (.slice b1 N b2) (l ++ [⟨3, [], 0, 0⟩]) w (.returned (.slice (some ⟨g, 0, none⟩) (N + 1) cap)) w1) := fun g cap w1 r1 r2 => push_ret hN r1 r2
  have hN6 : N ≤ 1000000 := by omega
  unfold maxLen at q2
  clear h hr hN hl
  go_enter Try.func19, Try.ntmps19
  go_wp2_with (at_builtin; refine wpList_append_lies _ rfl (.tmp 22) (.tmp 24) 23 rfl B 27 i9 _ 4 40 Try.underlying23 hi9 z0 z1 z2 rfl (by decide) (.slice b1 N b2) N (flatT l) rfl HR.out ⟨w.heap.size, 0, none⟩ 1 1 (Tm.cells ⟨3, [], 0, 0⟩) rfl rfl HC.out HT.out (by omega) (by unfold maxLen; omega) (by omega) HB.out (w.heap.size + 1) (alloc_size _ _) ?_; intro g cap w1 r1 r2 r3 r4; have HP : Hid _ := HE.out g cap w1 r1 r2; clear r1 r2 r3 r4)
  go_ret
  exact HP.out
set_option maxHeartbeats 2000000 in
theorem slash_u117  (h : Rw B v l w) (hn : B ≤ w.heap.size) (hl : l.length ≤ 1000000) :
    Calls Try.prog 19 #[v, .int .u8 117] w (RetT B v (l ++ [⟨4, [], 0, 117⟩]) w) := by
  obtain ⟨i9, hi9, z0, z1, z2⟩ := info_parts infoTm
  obtain ⟨N, hN⟩ : ∃ N, l.length = N := ⟨_, rfl⟩
  have hr : w.ownsRow B 27 4 v N (flatT l) := by rw [← hN]; exact h
  obtain ⟨b1, b2, rfl, q1, q2⟩ := owns_form hr
  have HR : Hid ((w.alloc (.cells #[.int .u8 4, .string ⟨#[]⟩, .int .i64 0, .int .u8 117] 27)).ownsRow B 27 4 (.slice b1 N b2) N (flatT l)) := row_kp hr (kp_alloc _ _)
  have HB : Hid (B ≤ (w.alloc (.cells #[.int .u8 4, .string ⟨#[]⟩, .int .i64 0, .int .u8 117] 27)).heap.size) := by rw [alloc_size]; exact Nat.le_succ_of_le hn
  have HC : Hid (∀ j u, (Tm.cells ⟨4, [], 0, 117⟩)[j]? = some u → (w.alloc (.cells #[.int .u8 4, .string ⟨#[]⟩, .int .i64 0, .int .u8 117] 27)).cell? ((⟨w.heap.size, 0, none⟩ : Addr).add j) = some u) := by
    have e : (.cells #[.int .u8 4, .string ⟨#[]⟩, .int .i64 0, .int .u8 117] 27 : Obj) = .cells (Tm.cells ⟨4, [], 0, 117⟩).toArray 27 (0, 0) := by rfl
    rw [e]
    exact tm_news (alloc_new w _)
  have HT : Hid _ := tm_one ⟨4, [], 0, 117⟩
  have HE : Hid (∀ g cap w1, w1.ownsRow B 27 4 (.slice (some ⟨g, 0, none⟩) (N + 1) cap) (N + 1) (flatT l ++ Tm.cells ⟨4, [], 0, 117⟩) → (w.alloc (.cells #[.int .u8 4, .string ⟨#[]⟩, .int .i64 0, .int .u8 117] 27)).grownBy w1 (Value.slice b1 N b2).ownBlock → RetT B (.slice b1 N b2) (l ++ [⟨4, [], 0, 117⟩]) w (.returned (.slice (some ⟨g, 0, none⟩) (N + 1) cap)) w1) := fun g cap w1 r1 r2 => push_ret hN r1 r2
  have hN6 : N ≤ 1000000 := by omega
  unfold maxLen at q2
  clear h hr hN hl
  go_enter Try.func19, Try.ntmps19
  go_wp2_with (at_builtin; refine wpList_append_lies _ rfl (.tmp 41) (.tmp 44) 23 rfl B 27 i9 _ 4 40 Try.underlying23 hi9 z0 z1 z2 rfl (by decide) (.slice b1 N b2) N (flatT l) rfl HR.out ⟨w.heap.size, 0, none⟩ 1 1 (Tm.cells ⟨4, [], 0, 117⟩) rfl rfl HC.out HT.out (by omega) (by unfold maxLen; omega) (by omega) HB.out (w.heap.size + 1) (alloc_size _ _) ?_; intro g cap w1 r1 r2 r3 r4; have HP : Hid _ := HE.out g cap w1 r1 r2; clear r1 r2 r3 r4)
  go_ret
  exact HP.out
set_option maxHeartbeats 2000000 in
theorem slash_u108  (h : Rw B v l w) (hn : B ≤ w.heap.size) (hl : l.length ≤ 1000000) :
    Calls Try.prog 19 #[v, .int .u8 108] w (RetT B v (l ++ [⟨4, [], 0, 108⟩]) w) := by
  obtain ⟨i9, hi9, z0, z1, z2⟩ := info_parts infoTm
  obtain ⟨N, hN⟩ : ∃ N, l.length = N := ⟨_, rfl⟩
  have hr : w.ownsRow B 27 4 v N (flatT l) := by rw [← hN]; exact h
  obtain ⟨b1, b2, rfl, q1, q2⟩ := owns_form hr
  have HR : Hid ((w.alloc (.cells #[.int .u8 4, .string ⟨#[]⟩, .int .i64 0, .int .u8 108] 27)).ownsRow B 27 4 (.slice b1 N b2) N (flatT l)) := row_kp hr (kp_alloc _ _)
  have HB : Hid (B ≤ (w.alloc (.cells #[.int .u8 4, .string ⟨#[]⟩, .int .i64 0, .int .u8 108] 27)).heap.size) := by rw [alloc_size]; exact Nat.le_succ_of_le hn
  have HC : Hid (∀ j u, (Tm.cells ⟨4, [], 0, 108⟩)[j]? = some u → (w.alloc (.cells #[.int .u8 4, .string ⟨#[]⟩, .int .i64 0, .int .u8 108] 27)).cell? ((⟨w.heap.size, 0, none⟩ : Addr).add j) = some u) := by
    have e : (.cells #[.int .u8 4, .string ⟨#[]⟩, .int .i64 0, .int .u8 108] 27 : Obj) = .cells (Tm.cells ⟨4, [], 0, 108⟩).toArray 27 (0, 0) := by rfl
    rw [e]
    exact tm_news (alloc_new w _)
  have HT : Hid _ := tm_one ⟨4, [], 0, 108⟩
  have HE : Hid (∀ g cap w1, w1.ownsRow B 27 4 (.slice (some ⟨g, 0, none⟩) (N + 1) cap) (N + 1) (flatT l ++ Tm.cells ⟨4, [], 0, 108⟩) → (w.alloc (.cells #[.int .u8 4, .string ⟨#[]⟩, .int .i64 0, .int .u8 108] 27)).grownBy w1 (Value.slice b1 N b2).ownBlock → RetT B (.slice b1 N b2) (l ++ [⟨4, [], 0, 108⟩]) w (.returned (.slice (some ⟨g, 0, none⟩) (N + 1) cap)) w1) := fun g cap w1 r1 r2 => push_ret hN r1 r2
  have hN6 : N ≤ 1000000 := by omega
  unfold maxLen at q2
  clear h hr hN hl
  go_enter Try.func19, Try.ntmps19
  go_wp2_with (at_builtin; refine wpList_append_lies _ rfl (.tmp 41) (.tmp 44) 23 rfl B 27 i9 _ 4 40 Try.underlying23 hi9 z0 z1 z2 rfl (by decide) (.slice b1 N b2) N (flatT l) rfl HR.out ⟨w.heap.size, 0, none⟩ 1 1 (Tm.cells ⟨4, [], 0, 108⟩) rfl rfl HC.out HT.out (by omega) (by unfold maxLen; omega) (by omega) HB.out (w.heap.size + 1) (alloc_size _ _) ?_; intro g cap w1 r1 r2 r3 r4; have HP : Hid _ := HE.out g cap w1 r1 r2; clear r1 r2 r3 r4)
  go_ret
  exact HP.out
set_option maxHeartbeats 2000000 in
theorem slash_u85  (h : Rw B v l w) (hn : B ≤ w.heap.size) (hl : l.length ≤ 1000000) :
    Calls Try.prog 19 #[v, .int .u8 85] w (RetT B v (l ++ [⟨4, [], 0, 85⟩]) w) := by
  obtain ⟨i9, hi9, z0, z1, z2⟩ := info_parts infoTm
  obtain ⟨N, hN⟩ : ∃ N, l.length = N := ⟨_, rfl⟩
  have hr : w.ownsRow B 27 4 v N (flatT l) := by rw [← hN]; exact h
  obtain ⟨b1, b2, rfl, q1, q2⟩ := owns_form hr
  have HR : Hid ((w.alloc (.cells #[.int .u8 4, .string ⟨#[]⟩, .int .i64 0, .int .u8 85] 27)).ownsRow B 27 4 (.slice b1 N b2) N (flatT l)) := row_kp hr (kp_alloc _ _)
  have HB : Hid (B ≤ (w.alloc (.cells #[.int .u8 4, .string ⟨#[]⟩, .int .i64 0, .int .u8 85] 27)).heap.size) := by rw [alloc_size]; exact Nat.le_succ_of_le hn
  have HC : Hid (∀ j u, (Tm.cells ⟨4, [], 0, 85⟩)[j]? = some u → (w.alloc (.cells #[.int .u8 4, .string ⟨#[]⟩, .int .i64 0, .int .u8 85] 27)).cell? ((⟨w.heap.size, 0, none⟩ : Addr).add j) = some u) := by
    have e : (.cells #[.int .u8 4, .string ⟨#[]⟩, .int .i64 0, .int .u8 85] 27 : Obj) = .cells (Tm.cells ⟨4, [], 0, 85⟩).toArray 27 (0, 0) := by rfl
    rw [e]
    exact tm_news (alloc_new w _)
  have HT : Hid _ := tm_one ⟨4, [], 0, 85⟩
  have HE : Hid (∀ g cap w1, w1.ownsRow B 27 4 (.slice (some ⟨g, 0, none⟩) (N + 1) cap) (N + 1) (flatT l ++ Tm.cells ⟨4, [], 0, 85⟩) → (w.alloc (.cells #[.int .u8 4, .string ⟨#[]⟩, .int .i64 0, .int .u8 85] 27)).grownBy w1 (Value.slice b1 N b2).ownBlock → RetT B (.slice b1 N b2) (l ++ [⟨4, [], 0, 85⟩]) w (.returned (.slice (some ⟨g, 0, none⟩) (N + 1) cap)) w1) := fun g cap w1 r1 r2 => push_ret hN r1 r2
  have hN6 : N ≤ 1000000 := by omega
  unfold maxLen at q2
  clear h hr hN hl
  go_enter Try.func19, Try.ntmps19
  go_wp2_with (at_builtin; refine wpList_append_lies _ rfl (.tmp 41) (.tmp 44) 23 rfl B 27 i9 _ 4 40 Try.underlying23 hi9 z0 z1 z2 rfl (by decide) (.slice b1 N b2) N (flatT l) rfl HR.out ⟨w.heap.size, 0, none⟩ 1 1 (Tm.cells ⟨4, [], 0, 85⟩) rfl rfl HC.out HT.out (by omega) (by unfold maxLen; omega) (by omega) HB.out (w.heap.size + 1) (alloc_size _ _) ?_; intro g cap w1 r1 r2 r3 r4; have HP : Hid _ := HE.out g cap w1 r1 r2; clear r1 r2 r3 r4)
  go_ret
  exact HP.out
set_option maxHeartbeats 2000000 in
theorem slash_u76  (h : Rw B v l w) (hn : B ≤ w.heap.size) (hl : l.length ≤ 1000000) :
    Calls Try.prog 19 #[v, .int .u8 76] w (RetT B v (l ++ [⟨4, [], 0, 76⟩]) w) := by
  obtain ⟨i9, hi9, z0, z1, z2⟩ := info_parts infoTm
  obtain ⟨N, hN⟩ : ∃ N, l.length = N := ⟨_, rfl⟩
  have hr : w.ownsRow B 27 4 v N (flatT l) := by rw [← hN]; exact h
  obtain ⟨b1, b2, rfl, q1, q2⟩ := owns_form hr
  have HR : Hid ((w.alloc (.cells #[.int .u8 4, .string ⟨#[]⟩, .int .i64 0, .int .u8 76] 27)).ownsRow B 27 4 (.slice b1 N b2) N (flatT l)) := row_kp hr (kp_alloc _ _)
  have HB : Hid (B ≤ (w.alloc (.cells #[.int .u8 4, .string ⟨#[]⟩, .int .i64 0, .int .u8 76] 27)).heap.size) := by rw [alloc_size]; exact Nat.le_succ_of_le hn
  have HC : Hid (∀ j u, (Tm.cells ⟨4, [], 0, 76⟩)[j]? = some u → (w.alloc (.cells #[.int .u8 4, .string ⟨#[]⟩, .int .i64 0, .int .u8 76] 27)).cell? ((⟨w.heap.size, 0, none⟩ : Addr).add j) = some u) := by
    have e : (.cells #[.int .u8 4, .string ⟨#[]⟩, .int .i64 0, .int .u8 76] 27 : Obj) = .cells (Tm.cells ⟨4, [], 0, 76⟩).toArray 27 (0, 0) := by rfl
    rw [e]
    exact tm_news (alloc_new w _)
  have HT : Hid _ := tm_one ⟨4, [], 0, 76⟩
  have HE : Hid (∀ g cap w1, w1.ownsRow B 27 4 (.slice (some ⟨g, 0, none⟩) (N + 1) cap) (N + 1) (flatT l ++ Tm.cells ⟨4, [], 0, 76⟩) → (w.alloc (.cells #[.int .u8 4, .string ⟨#[]⟩, .int .i64 0, .int .u8 76] 27)).grownBy w1 (Value.slice b1 N b2).ownBlock → RetT B (.slice b1 N b2) (l ++ [⟨4, [], 0, 76⟩]) w (.returned (.slice (some ⟨g, 0, none⟩) (N + 1) cap)) w1) := fun g cap w1 r1 r2 => push_ret hN r1 r2
  have hN6 : N ≤ 1000000 := by omega
  unfold maxLen at q2
  clear h hr hN hl
  go_enter Try.func19, Try.ntmps19
  go_wp2_with (at_builtin; refine wpList_append_lies _ rfl (.tmp 41) (.tmp 44) 23 rfl B 27 i9 _ 4 40 Try.underlying23 hi9 z0 z1 z2 rfl (by decide) (.slice b1 N b2) N (flatT l) rfl HR.out ⟨w.heap.size, 0, none⟩ 1 1 (Tm.cells ⟨4, [], 0, 76⟩) rfl rfl HC.out HT.out (by omega) (by unfold maxLen; omega) (by omega) HB.out (w.heap.size + 1) (alloc_size _ _) ?_; intro g cap w1 r1 r2 r3 r4; have HP : Hid _ := HE.out g cap w1 r1 r2; clear r1 r2 r3 r4)
  go_ret
  exact HP.out
set_option maxHeartbeats 2000000 in
theorem slash_e101  (h : Rw B v l w) (hn : B ≤ w.heap.size) (hl : l.length ≤ 1000000) :
    Calls Try.prog 19 #[v, .int .u8 101] w (RetT B v (l ++ [⟨4, [], 0, 69⟩]) w) := by
  obtain ⟨i9, hi9, z0, z1, z2⟩ := info_parts infoTm
  obtain ⟨N, hN⟩ : ∃ N, l.length = N := ⟨_, rfl⟩
  have hr : w.ownsRow B 27 4 v N (flatT l) := by rw [← hN]; exact h
  obtain ⟨b1, b2, rfl, q1, q2⟩ := owns_form hr
  have HR : Hid ((w.alloc (.cells #[.int .u8 4, .string ⟨#[]⟩, .int .i64 0, .int .u8 69] 27)).ownsRow B 27 4 (.slice b1 N b2) N (flatT l)) := row_kp hr (kp_alloc _ _)
  have HB : Hid (B ≤ (w.alloc (.cells #[.int .u8 4, .string ⟨#[]⟩, .int .i64 0, .int .u8 69] 27)).heap.size) := by rw [alloc_size]; exact Nat.le_succ_of_le hn
  have HC : Hid (∀ j u, (Tm.cells ⟨4, [], 0, 69⟩)[j]? = some u → (w.alloc (.cells #[.int .u8 4, .string ⟨#[]⟩, .int .i64 0, .int .u8 69] 27)).cell? ((⟨w.heap.size, 0, none⟩ : Addr).add j) = some u) := by
    have e : (.cells #[.int .u8 4, .string ⟨#[]⟩, .int .i64 0, .int .u8 69] 27 : Obj) = .cells (Tm.cells ⟨4, [], 0, 69⟩).toArray 27 (0, 0) := by rfl
    rw [e]
    exact tm_news (alloc_new w _)
  have HT : Hid _ := tm_one ⟨4, [], 0, 69⟩
  have HE : Hid (∀ g cap w1, w1.ownsRow B 27 4 (.slice (some ⟨g, 0, none⟩) (N + 1) cap) (N + 1) (flatT l ++ Tm.cells ⟨4, [], 0, 69⟩) → (w.alloc (.cells #[.int .u8 4, .string ⟨#[]⟩, .int .i64 0, .int .u8 69] 27)).grownBy w1 (Value.slice b1 N b2).ownBlock → RetT B (.slice b1 N b2) (l ++ [⟨4, [], 0, 69⟩]) w (.returned (.slice (some ⟨g, 0, none⟩) (N + 1) cap)) w1) := fun g cap w1 r1 r2 => push_ret hN r1 r2
  have hN6 : N ≤ 1000000 := by omega
  unfold maxLen at q2
  clear h hr hN hl
  go_enter Try.func19, Try.ntmps19
  go_wp2_with (at_builtin; refine wpList_append_lies _ rfl (.tmp 53) (.tmp 55) 23 rfl B 27 i9 _ 4 40 Try.underlying23 hi9 z0 z1 z2 rfl (by decide) (.slice b1 N b2) N (flatT l) rfl HR.out ⟨w.heap.size, 0, none⟩ 1 1 (Tm.cells ⟨4, [], 0, 69⟩) rfl rfl HC.out HT.out (by omega) (by unfold maxLen; omega) (by omega) HB.out (w.heap.size + 1) (alloc_size _ _) ?_; intro g cap w1 r1 r2 r3 r4; have HP : Hid _ := HE.out g cap w1 r1 r2; clear r1 r2 r3 r4)
  go_ret
  exact HP.out
set_option maxHeartbeats 2000000 in
theorem slash_e69  (h : Rw B v l w) (hn : B ≤ w.heap.size) (hl : l.length ≤ 1000000) :
    Calls Try.prog 19 #[v, .int .u8 69] w (RetT B v (l ++ [⟨4, [], 0, 69⟩]) w) := by
  obtain ⟨i9, hi9, z0, z1, z2⟩ := info_parts infoTm
  obtain ⟨N, hN⟩ : ∃ N, l.length = N := ⟨_, rfl⟩
  have hr : w.ownsRow B 27 4 v N (flatT l) := by rw [← hN]; exact h
  obtain ⟨b1, b2, rfl, q1, q2⟩ := owns_form hr
  have HR : Hid ((w.alloc (.cells #[.int .u8 4, .string ⟨#[]⟩, .int .i64 0, .int .u8 69] 27)).ownsRow B 27 4 (.slice b1 N b2) N (flatT l)) := row_kp hr (kp_alloc _ _)
  have HB : Hid (B ≤ (w.alloc (.cells #[.int .u8 4, .string ⟨#[]⟩, .int .i64 0, .int .u8 69] 27)).heap.size) := by rw [alloc_size]; exact Nat.le_succ_of_le hn
  have HC : Hid (∀ j u, (Tm.cells ⟨4, [], 0, 69⟩)[j]? = some u → (w.alloc (.cells #[.int .u8 4, .string ⟨#[]⟩, .int .i64 0, .int .u8 69] 27)).cell? ((⟨w.heap.size, 0, none⟩ : Addr).add j) = some u) := by
    have e : (.cells #[.int .u8 4, .string ⟨#[]⟩, .int .i64 0, .int .u8 69] 27 : Obj) = .cells (Tm.cells ⟨4, [], 0, 69⟩).toArray 27 (0, 0) := by rfl
    rw [e]
    exact tm_news (alloc_new w _)
  have HT : Hid _ := tm_one ⟨4, [], 0, 69⟩
  have HE : Hid (∀ g cap w1, w1.ownsRow B 27 4 (.slice (some ⟨g, 0, none⟩) (N + 1) cap) (N + 1) (flatT l ++ Tm.cells ⟨4, [], 0, 69⟩) → (w.alloc (.cells #[.int .u8 4, .string ⟨#[]⟩, .int .i64 0, .int .u8 69] 27)).grownBy w1 (Value.slice b1 N b2).ownBlock → RetT B (.slice b1 N b2) (l ++ [⟨4, [], 0, 69⟩]) w (.returned (.slice (some ⟨g, 0, none⟩) (N + 1) cap)) w1) := fun g cap w1 r1 r2 => push_ret hN r1 r2
  have hN6 : N ≤ 1000000 := by omega
  unfold maxLen at q2
  clear h hr hN hl
  go_enter Try.func19, Try.ntmps19
  go_wp2_with (at_builtin; refine wpList_append_lies _ rfl (.tmp 53) (.tmp 55) 23 rfl B 27 i9 _ 4 40 Try.underlying23 hi9 z0 z1 z2 rfl (by decide) (.slice b1 N b2) N (flatT l) rfl HR.out ⟨w.heap.size, 0, none⟩ 1 1 (Tm.cells ⟨4, [], 0, 69⟩) rfl rfl HC.out HT.out (by omega) (by unfold maxLen; omega) (by omega) HB.out (w.heap.size + 1) (alloc_size _ _) ?_; intro g cap w1 r1 r2 r3 r4; have HP : Hid _ := HE.out g cap w1 r1 r2; clear r1 r2 r3 r4)
  go_ret
  exact HP.out
set_option maxHeartbeats 2000000 in
theorem slash_n {b1 : Option Addr} {N b2 : Nat}  (HT : Hid (∀ W, Kp w W → Calls Try.prog 20 #[.slice b1 N b2, .string ⟨#[0]⟩] W (RetT B (.slice b1 N b2) l W))) :
    Calls Try.prog 19 #[.slice b1 N b2, .int .u8 110] w (RetT B (.slice b1 N b2) l w) := by
  go_enter Try.func19, Try.ntmps19
  go_wp2_with fail
  refine Calls.mono (HT.out _ (Below.refl _ _)) ?_
  rintro e w1 ⟨a, n, cap, rfl, r1, r2⟩
  have HE : Hid (RetT B (.slice b1 N b2) l w (.returned (.slice a n cap)) w1) := ⟨_, _, _, rfl, r1, r2⟩
  clear r1 r2
  go_wp2_with fail
  go_ret
  exact HE.out
set_option maxHeartbeats 2000000 in
theorem slash_t {b1 : Option Addr} {N b2 : Nat}  (HT : Hid (∀ W, Kp w W → Calls Try.prog 20 #[.slice b1 N b2, .string ⟨#[9]⟩] W (RetT B (.slice b1 N b2) l W))) :
    Calls Try.prog 19 #[.slice b1 N b2, .int .u8 116] w (RetT B (.slice b1 N b2) l w) := by
  go_enter Try.func19, Try.ntmps19
  go_wp2_with fail
  refine Calls.mono (HT.out _ (Below.refl _ _)) ?_
  rintro e w1 ⟨a, n, cap, rfl, r1, r2⟩
  have HE : Hid (RetT B (.slice b1 N b2) l w (.returned (.slice a n cap)) w1) := ⟨_, _, _, rfl, r1, r2⟩
  clear r1 r2
  go_wp2_with fail
  go_ret
  exact HE.out
set_option maxHeartbeats 2000000 in
theorem slash_low {b1 : Option Addr} {N b2 : Nat} {d : UInt8} {c : Nat} (hd : d.toNat = c) (hc : c < 48) (HT : Hid (∀ W, Kp w W → Calls Try.prog 20 #[.slice b1 N b2, .string ⟨#[d]⟩] W (RetT B (.slice b1 N b2) l W))) :
    Calls Try.prog 19 #[.slice b1 N b2, .int .u8 c] w (RetT B (.slice b1 N b2) l w) := by
  have d1 : decide ((c : Int) ≥ 48) = false := decide_eq_false (by omega)
  have d1' : decide ((48 : Int) ≤ (c : Int)) = false := decide_eq_false (by omega)
  have e114 : ((c : Int) == 114) = false := by simp; omega
  have e117 : ((c : Int) == 117) = false := by simp; omega
  have e108 : ((c : Int) == 108) = false := by simp; omega
  have e85 : ((c : Int) == 85) = false := by simp; omega
  have e76 : ((c : Int) == 76) = false := by simp; omega
  have e101 : ((c : Int) == 101) = false := by simp; omega
  have e69 : ((c : Int) == 69) = false := by simp; omega
  have e110 : ((c : Int) == 110) = false := by simp; omega
  have e116 : ((c : Int) == 116) = false := by simp; omega
  have kc := one_str w d (c : Int) (by rw [hd])
  clear hd hc
  go_enter Try.func19, Try.ntmps19
  go_wp2_with fail
  refine Calls.mono (HT.out _ (kp_alloc _ _)) ?_
  rintro e w1 ⟨a, n, cap, rfl, r1, r2⟩
  have HE : Hid (RetT B (.slice b1 N b2) l w (.returned (.slice a n cap)) w1) := ⟨_, _, _, rfl, r1, r2.frAlloc⟩
  clear r1 r2
  go_wp2_with fail
  go_ret
  exact HE.out
set_option maxHeartbeats 2000000 in
theorem slash_high {b1 : Option Addr} {N b2 : Nat} {d : UInt8} {c : Nat} (hd : d.toNat = c) (hc : 57 < c) (g : c ≠ 114 ∧ c ≠ 117 ∧ c ≠ 108 ∧ c ≠ 85 ∧ c ≠ 76 ∧ c ≠ 101 ∧ c ≠ 69 ∧ c ≠ 110 ∧ c ≠ 116) (HT : Hid (∀ W, Kp w W → Calls Try.prog 20 #[.slice b1 N b2, .string ⟨#[d]⟩] W (RetT B (.slice b1 N b2) l W))) :
    Calls Try.prog 19 #[.slice b1 N b2, .int .u8 c] w (RetT B (.slice b1 N b2) l w) := by
  have d1 : decide ((c : Int) ≥ 48) = true := decide_eq_true (by omega)
  have d1' : decide ((48 : Int) ≤ (c : Int)) = true := decide_eq_true (by omega)
  have d2 : decide ((c : Int) ≤ 57) = false := decide_eq_false (by omega)
  have e114 : ((c : Int) == 114) = false := by simp; omega
  have e117 : ((c : Int) == 117) = false := by simp; omega
  have e108 : ((c : Int) == 108) = false := by simp; omega
  have e85 : ((c : Int) == 85) = false := by simp; omega
  have e76 : ((c : Int) == 76) = false := by simp; omega
  have e101 : ((c : Int) == 101) = false := by simp; omega
  have e69 : ((c : Int) == 69) = false := by simp; omega
  have e110 : ((c : Int) == 110) = false := by simp; omega
  have e116 : ((c : Int) == 116) = false := by simp; omega
  have kc := one_str w d (c : Int) (by rw [hd])
  clear hd hc g
  go_enter Try.func19, Try.ntmps19
  go_wp2_with fail
  refine Calls.mono (HT.out _ (kp_alloc _ _)) ?_
  rintro e w1 ⟨a, n, cap, rfl, r1, r2⟩
  have HE : Hid (RetT B (.slice b1 N b2) l w (.returned (.slice a n cap)) w1) := ⟨_, _, _, rfl, r1, r2.frAlloc⟩
  clear r1 r2
  go_wp2_with fail
  go_ret
  exact HE.out
/-- A sign behind a backslash. -/
theorem slash_any {st : List Tm × List UInt8} {d : UInt8} (h : Rw B v (layF st.2 st.1) w) (hn : B ≤ w.heap.size) (hl : st.1.length ≤ 2000 ∧ st.2.length ≤ 2000) (hs : Shut st.1) :
    Calls Try.prog 19 #[v, .int .u8 d.toNat] w (RetT B v (layF (stepP st (d, true)).2 (stepP st (d, true)).1) w) := by
  have key : ∀ k : Nat, k < 256 → (d.toNat = k ↔ d = UInt8.ofNat k) := fun k hk => by
    rw [← UInt8.toNat_inj, UInt8.toNat_ofNat', Nat.mod_eq_of_lt hk]
  have hL : (layF st.2 st.1).length ≤ 1000000 := by have := layF_len st.2 st.1; split at this <;> omega
  cases hp : pieceF (d, true) with
  | some t =>
    have e : layF (stepP st (d, true)).2 (stepP st (d, true)).1 = layF st.2 st.1 ++ [t] := by simp [stepP, hp, layF]
    rw [e]
    simp only [pieceF, if_true] at hp
    by_cases h0 : 48 ≤ d.toNat ∧ d.toNat ≤ 57
    · rw [if_pos h0, Option.some.injEq] at hp
      subst hp
      exact slash_dig _ h0 h hn hL
    rw [if_neg h0] at hp
    by_cases h1 : d = 114
    · rw [if_pos h1, Option.some.injEq] at hp
      subst hp h1; exact slash_r h hn hL
    rw [if_neg h1] at hp
    by_cases h2 : d = 117 ∨ d = 108 ∨ d = 85 ∨ d = 76
    · rw [if_pos h2, Option.some.injEq] at hp
      subst hp
      rcases h2 with rfl | rfl | rfl | rfl
      · exact slash_u117 h hn hL
      · exact slash_u108 h hn hL
      · exact slash_u85 h hn hL
      · exact slash_u76 h hn hL
    rw [if_neg h2] at hp
    by_cases h3 : d = 101 ∨ d = 69
    · rw [if_pos h3, Option.some.injEq] at hp
      subst hp
      rcases h3 with rfl | rfl
      · exact slash_e101 h hn hL
      · exact slash_e69 h hn hL
    rw [if_neg h3] at hp
    cases hp
  | none =>
    have e : layF (stepP st (d, true)).2 (stepP st (d, true)).1 = layF (st.2 ++ [byteF (d, true)]) st.1 := by simp [stepP, hp]
    rw [e]
    obtain ⟨b1, b2, rfl, q1, q2⟩ := owns_form h
    have HT : Hid (∀ W, Kp w W → Calls Try.prog 20 #[.slice b1 (layF st.2 st.1).length b2, .string ⟨#[byteF (d, true)]⟩] W (RetT B (.slice b1 (layF st.2 st.1).length b2) (layF (st.2 ++ [byteF (d, true)]) st.1) W)) := fun W k =>
      text_any (s := [byteF (d, true)]) (row_kp h k) (Nat.le_trans hn k.size) (by omega) (by simp; omega) hs (by simp)
    generalize (layF st.2 st.1).length = N at *
    generalize layF (st.2 ++ [byteF (d, true)]) st.1 = L at *
    clear h e
    simp only [pieceF, if_true] at hp
    simp only [byteF, if_true] at HT
    by_cases h0 : 48 ≤ d.toNat ∧ d.toNat ≤ 57
    · rw [if_pos h0] at hp; cases hp
    rw [if_neg h0] at hp
    by_cases h1 : d = 114
    · rw [if_pos h1] at hp; cases hp
    rw [if_neg h1] at hp
    by_cases h2 : d = 117 ∨ d = 108 ∨ d = 85 ∨ d = 76
    · rw [if_pos h2] at hp; cases hp
    rw [if_neg h2] at hp
    by_cases h3 : d = 101 ∨ d = 69
    · rw [if_pos h3] at hp; cases hp
    simp only [not_or] at h2 h3
    by_cases h4 : d = 110
    · subst h4
      exact slash_n HT
    rw [if_neg h4] at HT
    by_cases h5 : d = 116
    · subst h5
      exact slash_t HT
    rw [if_neg h5] at HT
    rcases Nat.lt_or_ge d.toNat 48 with q | q
    · exact slash_low rfl q HT
    · exact slash_high rfl (by omega) ⟨fun h => h1 ((key 114 (by decide)).1 h), fun h => h2.1 ((key 117 (by decide)).1 h), fun h => h2.2.1 ((key 108 (by decide)).1 h), fun h => h2.2.2.1 ((key 85 (by decide)).1 h), fun h => h2.2.2.2 ((key 76 (by decide)).1 h), fun h => h3.1 ((key 101 (by decide)).1 h), fun h => h3.2 ((key 69 (by decide)).1 h), fun h => h4 ((key 110 (by decide)).1 h), fun h => h5 ((key 116 (by decide)).1 h)⟩ HT
end
end Go.Proofs.Ytbeaoonddlfcgaa
/- TmplPlain: the walk. -/
namespace Go.Proofs.Ytbeaoonddlfcgaa
open Go.ChangeShapes Go.WideShapes Go.ChangeAt Go.RowKit Go.Shelf
set_option linter.unusedVariables false
set_option linter.unusedSimpArgs false
def alnum (c : UInt8) : Bool := decide ((97 ≤ c.toNat ∧ c.toNat ≤ 122) ∨ (65 ≤ c.toNat ∧ c.toNat ≤ 90) ∨ (48 ≤ c.toNat ∧ c.toNat ≤ 57))
theorem alnum_yes {c : UInt8} (h : (97 ≤ c.toNat ∧ c.toNat ≤ 122) ∨ (65 ≤ c.toNat ∧ c.toNat ≤ 90) ∨ (48 ≤ c.toNat ∧ c.toNat ≤ 57)) : alnum c = true := decide_eq_true h
theorem alnum_no {c : UInt8} (h : ¬ ((97 ≤ c.toNat ∧ c.toNat ≤ 122) ∨ (65 ≤ c.toNat ∧ c.toNat ≤ 90) ∨ (48 ≤ c.toNat ∧ c.toNat ≤ 57))) : alnum c = false := decide_eq_false h
def quo (c : UInt8) : List UInt8 := if alnum c then [c] else [92, c]
def quote (l : List UInt8) : List UInt8 := l.flatMap quo
theorem quote_len (l : List UInt8) : (quote l).length ≤ 2 * l.length := by
  induction l with
  | nil => simp [quote]
  | cons c l ih =>
    have : (quo c).length ≤ 2 := by unfold quo; split <;> simp
    simp only [quote, List.flatMap_cons, List.length_append, List.length_cons] at *
    omega
theorem sgns_quote (l : List UInt8) : sgns (quote l) = l.map fun c => (c, !alnum c) := by
  induction l with
  | nil => rfl
  | cons c l ih =>
    simp only [quote, List.flatMap_cons, List.map_cons] at *
    cases h : alnum c with
    | true =>
      have : c ≠ 92 := fun q => by rw [q] at h; exact absurd h (by decide)
      simp only [quo, h, if_true, List.singleton_append]
      rw [sgns_one (.inl this), ih]
      rfl
    | false =>
      simp only [quo, h, if_false, Bool.false_eq_true, List.cons_append, List.nil_append]
      rw [sgns_esc, ih]
      rfl
theorem piece_quote (c : UInt8) : pieceF (c, !alnum c) = none ∧ byteF (c, !alnum c) = c := by
  cases h : alnum c with
  | true =>
    have : c ≠ 38 := fun q => by rw [q] at h; exact absurd h (by decide)
    simp [pieceF, byteF, this]
  | false =>
    have hh := of_decide_eq_false h
    have key : ∀ k : UInt8, alnum k = true → c ≠ k := fun k hk q => by rw [q, hk] at h; cases h
    have h0 : ¬ (48 ≤ c.toNat ∧ c.toNat ≤ 57) := by omega
    simp [pieceF, byteF, h0, key 114 (by decide), key 117 (by decide), key 108 (by decide), key 85 (by decide), key 76 (by decide), key 101 (by decide), key 69 (by decide), key 110 (by decide), key 116 (by decide)]
theorem par_quote (l : List UInt8) (st : List Tm × List UInt8) : (l.map fun c => (c, !alnum c)).foldl stepP st = (st.1, st.2 ++ l) := by
  induction l generalizing st with
  | nil => simp
  | cons c l ih =>
    obtain ⟨h1, h2⟩ := piece_quote c
    rw [List.map_cons, List.foldl_cons, ih]
    simp [stepP, h1, h2]
theorem parse_quote (l : List UInt8) : parseF (quote l) = if l = [] then [] else [⟨1, l, 0, 0⟩] := by
  unfold parseF parL
  rw [sgns_quote, par_quote]
  simp [layF]
theorem sub_one {S : ByteArray} {i : Nat} (h : i < S.size) (c : UInt8) (hc : S[i]'h = c) (W : World) : (Instr.slice 9 (.string S) (some (.int .i64 (i : Int))) (some (.int .i64 ((i : Int) + 1))) none).run Try.prog W = .ok (.string ⟨#[c]⟩) W := by
  rw [run_slice_string (P := Try.prog) W 9 _ .i64 .i64 (i : Int) ((i : Int) + 1) Try.underlying9 (by omega) (by omega) (by omega)]
  have e : ((i : Int) + 1).toNat = i + 1 := by omega
  rw [Int.toNat_natCast, e]
  congr 2
  apply ByteArray.ext
  apply Array.ext
  · simp [ByteArray.size_data]; omega
  · intro j h1 h2
    simp at h2
    subst h2
    simp [← hc]
    rfl
set_option maxHeartbeats 4000000 in
set_option maxRecDepth 100000 in
theorem plain_walk (S : ByteArray) (w : World) : Calls Try.prog 6 #[.string S] w fun e w' => e = .returned (.bool true) ∧ Kp w w' := by
  obtain ⟨n, hn⟩ : ∃ n, S.size = n := ⟨_, rfl⟩
  by_cases hbig : 500 < n
  · have d1 : decide ((n : Int) > 500) = true := decide_eq_true (by omega)
    have d1' : decide ((500 : Int) < (n : Int)) = true := decide_eq_true (by omega)
    go_enter Try.func6, Try.ntmps6
    go_wp2_with fail
    refine Calls.mono (known_any w) ?_
    rintro e w1 ⟨rfl, k1⟩
    go_wp2_with fail
    go_ret
    exact ⟨rfl, k1⟩
  have d1 : decide ((n : Int) > 500) = false := decide_eq_false (by omega)
  have d1' : decide ((500 : Int) < (n : Int)) = false := decide_eq_false (by omega)
  go_enter Try.func6, Try.ntmps6
  go_wp2_with fail
  refine Calls.mono (known_any w) ?_
  rintro e w1 ⟨rfl, k1⟩
  have HK : Hid (Kp w w1) := k1
  clear k1
  go_wp2_with fail
  go_loopw [3, 4] (fun v3 v4 wr => ∃ i : Nat, i ≤ n ∧ v4 = .int .i64 i ∧ v3 = .string ⟨(quote (S.data.toList.take i)).toArray⟩ ∧ wr = w1) (fun _ v4 _ => n - (intOf v4).toNat)
  case atStart => exact ⟨0, Nat.zero_le _, rfl, rfl, rfl⟩
  case round =>
    obtain ⟨i, hi, rfl, rfl, rfl⟩ := hrel
    by_cases hlt : i < n
    · have dl : decide ((i : Int) < (n : Int)) = true := decide_eq_true (by omega)
      have hil : i < S.size := by rw [hn]; exact hlt
      obtain ⟨c, hc⟩ : ∃ c, S[i]'hil = c := ⟨_, rfl⟩
      have HQ : Hid (quote (S.data.toList.take (i + 1)) = quote (S.data.toList.take i) ++ (if alnum c then [c] else [92, c])) := by
        show _ = _
        rw [List.take_add_one, show S.data.toList[i]? = some c by rw [← hc, List.getElem?_eq_getElem (by simpa using hil)]; rfl]
        simp [quote, quo]
      have hxl0 := quote_len (S.data.toList.take i)
      obtain ⟨x, hx⟩ : ∃ x, quote (S.data.toList.take i) = x := ⟨_, rfl⟩
      rw [hx] at hxl0 ⊢
      have hxl : x.length ≤ 1000 := by
        have : (S.data.toList.take i).length ≤ i := by simp; omega
        omega
      clear hxl0
      have sl := sub_one hil c hc
      obtain ⟨C, hC⟩ : ∃ C, c.toNat = C := ⟨_, rfl⟩
      have hcc : (S[i]'hil).toNat = C := by rw [hc]; exact hC
      have hC256 : C < 256 := by rw [← hC]; exact c.toNat_lt
      by_cases q0 : C ≤ 47
      · have g97 : decide ((C : Int) ≥ 97) = false := decide_eq_false (by omega)
        have h97 : decide ((97 : Int) ≤ (C : Int)) = false := decide_eq_false (by omega)
        have g65 : decide ((C : Int) ≥ 65) = false := decide_eq_false (by omega)
        have h65 : decide ((65 : Int) ≤ (C : Int)) = false := decide_eq_false (by omega)
        have g48 : decide ((C : Int) ≥ 48) = false := decide_eq_false (by omega)
        have h48 : decide ((48 : Int) ≤ (C : Int)) = false := decide_eq_false (by omega)
        have g122 : decide ((C : Int) ≤ 122) = true := decide_eq_true (by omega)
        have g90 : decide ((C : Int) ≤ 90) = true := decide_eq_true (by omega)
        have g57 : decide ((C : Int) ≤ 57) = true := decide_eq_true (by omega)
        have hq : quote (S.data.toList.take (i + 1)) = x ++ [92] ++ [c] := by rw [HQ.out, alnum_no (by rw [hC]; omega), ← hx]; simp
        have ct0 : ∀ W, (Op.stringOp .add ⟨x.toArray⟩ ⟨#[92]⟩).run Try.prog W = .ok (.string ⟨(x ++ [92]).toArray⟩) W := fun W => catS rfl (by simp; omega) W
        obtain ⟨y, hy⟩ : ∃ y, x ++ [92] = y := ⟨_, rfl⟩
        rw [hy] at ct0 hq
        have hyl : y.length ≤ 1001 := by rw [← hy]; simp; omega
        have ct1 : ∀ W, (Op.stringOp .add ⟨y.toArray⟩ ⟨#[c]⟩).run Try.prog W = .ok (.string ⟨(y ++ [c]).toArray⟩) W := fun W => catS rfl (by simp; omega) W
        have HQ2 : Hid _ := hq
        clear hq hy HQ hx hc
        go_wp2_with fail
        go_roundw
        case rel => exact ⟨i + 1, by omega, by go_num, by rw [HQ2.out], trivial⟩
        case measure => simp only [intOf]; omega
      by_cases q1 : C ≤ 57
      · have g97 : decide ((C : Int) ≥ 97) = false := decide_eq_false (by omega)
        have h97 : decide ((97 : Int) ≤ (C : Int)) = false := decide_eq_false (by omega)
        have g65 : decide ((C : Int) ≥ 65) = false := decide_eq_false (by omega)
        have h65 : decide ((65 : Int) ≤ (C : Int)) = false := decide_eq_false (by omega)
        have g48 : decide ((C : Int) ≥ 48) = true := decide_eq_true (by omega)
        have h48 : decide ((48 : Int) ≤ (C : Int)) = true := decide_eq_true (by omega)
        have g122 : decide ((C : Int) ≤ 122) = true := decide_eq_true (by omega)
        have g90 : decide ((C : Int) ≤ 90) = true := decide_eq_true (by omega)
        have g57 : decide ((C : Int) ≤ 57) = true := decide_eq_true (by omega)
        have hq : quote (S.data.toList.take (i + 1)) = x ++ [c] := by rw [HQ.out, alnum_yes (by rw [hC]; omega), ← hx]; rfl
        obtain ⟨y, hy⟩ : ∃ y, x = y := ⟨_, rfl⟩
        rw [hy] at hq hxl ⊢
        have hyl : y.length ≤ 1001 := by rw [← hy]; exact Nat.le_succ_of_le (by rw [hy]; exact hxl)
        have ct1 : ∀ W, (Op.stringOp .add ⟨y.toArray⟩ ⟨#[c]⟩).run Try.prog W = .ok (.string ⟨(y ++ [c]).toArray⟩) W := fun W => catS rfl (by simp; omega) W
        have HQ2 : Hid _ := hq
        clear hq hy HQ hx hc
        go_wp2_with fail
        go_roundw
        case rel => exact ⟨i + 1, by omega, by go_num, by rw [HQ2.out], trivial⟩
        case measure => simp only [intOf]; omega
      by_cases q2 : C ≤ 64
      · have g97 : decide ((C : Int) ≥ 97) = false := decide_eq_false (by omega)
        have h97 : decide ((97 : Int) ≤ (C : Int)) = false := decide_eq_false (by omega)
        have g65 : decide ((C : Int) ≥ 65) = false := decide_eq_false (by omega)
        have h65 : decide ((65 : Int) ≤ (C : Int)) = false := decide_eq_false (by omega)
        have g48 : decide ((C : Int) ≥ 48) = true := decide_eq_true (by omega)
        have h48 : decide ((48 : Int) ≤ (C : Int)) = true := decide_eq_true (by omega)
        have g122 : decide ((C : Int) ≤ 122) = true := decide_eq_true (by omega)
        have g90 : decide ((C : Int) ≤ 90) = true := decide_eq_true (by omega)
        have g57 : decide ((C : Int) ≤ 57) = false := decide_eq_false (by omega)
        have hq : quote (S.data.toList.take (i + 1)) = x ++ [92] ++ [c] := by rw [HQ.out, alnum_no (by rw [hC]; omega), ← hx]; simp
        have ct0 : ∀ W, (Op.stringOp .add ⟨x.toArray⟩ ⟨#[92]⟩).run Try.prog W = .ok (.string ⟨(x ++ [92]).toArray⟩) W := fun W => catS rfl (by simp; omega) W
        obtain ⟨y, hy⟩ : ∃ y, x ++ [92] = y := ⟨_, rfl⟩
        rw [hy] at ct0 hq
        have hyl : y.length ≤ 1001 := by rw [← hy]; simp; omega
        have ct1 : ∀ W, (Op.stringOp .add ⟨y.toArray⟩ ⟨#[c]⟩).run Try.prog W = .ok (.string ⟨(y ++ [c]).toArray⟩) W := fun W => catS rfl (by simp; omega) W
        have HQ2 : Hid _ := hq
        clear hq hy HQ hx hc
        go_wp2_with fail
        go_roundw
        case rel => exact ⟨i + 1, by omega, by go_num, by rw [HQ2.out], trivial⟩
        case measure => simp only [intOf]; omega
      by_cases q3 : C ≤ 90
      · have g97 : decide ((C : Int) ≥ 97) = false := decide_eq_false (by omega)
        have h97 : decide ((97 : Int) ≤ (C : Int)) = false := decide_eq_false (by omega)
        have g65 : decide ((C : Int) ≥ 65) = true := decide_eq_true (by omega)
        have h65 : decide ((65 : Int) ≤ (C : Int)) = true := decide_eq_true (by omega)
        have g48 : decide ((C : Int) ≥ 48) = true := decide_eq_true (by omega)
        have h48 : decide ((48 : Int) ≤ (C : Int)) = true := decide_eq_true (by omega)
        have g122 : decide ((C : Int) ≤ 122) = true := decide_eq_true (by omega)
        have g90 : decide ((C : Int) ≤ 90) = true := decide_eq_true (by omega)
        have g57 : decide ((C : Int) ≤ 57) = false := decide_eq_false (by omega)
        have hq : quote (S.data.toList.take (i + 1)) = x ++ [c] := by rw [HQ.out, alnum_yes (by rw [hC]; omega), ← hx]; rfl
        obtain ⟨y, hy⟩ : ∃ y, x = y := ⟨_, rfl⟩
        rw [hy] at hq hxl ⊢
        have hyl : y.length ≤ 1001 := by rw [← hy]; exact Nat.le_succ_of_le (by rw [hy]; exact hxl)
        have ct1 : ∀ W, (Op.stringOp .add ⟨y.toArray⟩ ⟨#[c]⟩).run Try.prog W = .ok (.string ⟨(y ++ [c]).toArray⟩) W := fun W => catS rfl (by simp; omega) W
        have HQ2 : Hid _ := hq
        clear hq hy HQ hx hc
        go_wp2_with fail
        go_roundw
        case rel => exact ⟨i + 1, by omega, by go_num, by rw [HQ2.out], trivial⟩
        case measure => simp only [intOf]; omega
      by_cases q4 : C ≤ 96
      · have g97 : decide ((C : Int) ≥ 97) = false := decide_eq_false (by omega)
        have h97 : decide ((97 : Int) ≤ (C : Int)) = false := decide_eq_false (by omega)
        have g65 : decide ((C : Int) ≥ 65) = true := decide_eq_true (by omega)
        have h65 : decide ((65 : Int) ≤ (C : Int)) = true := decide_eq_true (by omega)
        have g48 : decide ((C : Int) ≥ 48) = true := decide_eq_true (by omega)
        have h48 : decide ((48 : Int) ≤ (C : Int)) = true := decide_eq_true (by omega)
        have g122 : decide ((C : Int) ≤ 122) = true := decide_eq_true (by omega)
        have g90 : decide ((C : Int) ≤ 90) = false := decide_eq_false (by omega)
        have g57 : decide ((C : Int) ≤ 57) = false := decide_eq_false (by omega)
        have hq : quote (S.data.toList.take (i + 1)) = x ++ [92] ++ [c] := by rw [HQ.out, alnum_no (by rw [hC]; omega), ← hx]; simp
        have ct0 : ∀ W, (Op.stringOp .add ⟨x.toArray⟩ ⟨#[92]⟩).run Try.prog W = .ok (.string ⟨(x ++ [92]).toArray⟩) W := fun W => catS rfl (by simp; omega) W
        obtain ⟨y, hy⟩ : ∃ y, x ++ [92] = y := ⟨_, rfl⟩
        rw [hy] at ct0 hq
        have hyl : y.length ≤ 1001 := by rw [← hy]; simp; omega
        have ct1 : ∀ W, (Op.stringOp .add ⟨y.toArray⟩ ⟨#[c]⟩).run Try.prog W = .ok (.string ⟨(y ++ [c]).toArray⟩) W := fun W => catS rfl (by simp; omega) W
        have HQ2 : Hid _ := hq
        clear hq hy HQ hx hc
        go_wp2_with fail
        go_roundw
        case rel => exact ⟨i + 1, by omega, by go_num, by rw [HQ2.out], trivial⟩
        case measure => simp only [intOf]; omega
      by_cases q5 : C ≤ 122
      · have g97 : decide ((C : Int) ≥ 97) = true := decide_eq_true (by omega)
        have h97 : decide ((97 : Int) ≤ (C : Int)) = true := decide_eq_true (by omega)
        have g65 : decide ((C : Int) ≥ 65) = true := decide_eq_true (by omega)
        have h65 : decide ((65 : Int) ≤ (C : Int)) = true := decide_eq_true (by omega)
        have g48 : decide ((C : Int) ≥ 48) = true := decide_eq_true (by omega)
        have h48 : decide ((48 : Int) ≤ (C : Int)) = true := decide_eq_true (by omega)
        have g122 : decide ((C : Int) ≤ 122) = true := decide_eq_true (by omega)
        have g90 : decide ((C : Int) ≤ 90) = false := decide_eq_false (by omega)
        have g57 : decide ((C : Int) ≤ 57) = false := decide_eq_false (by omega)
        have hq : quote (S.data.toList.take (i + 1)) = x ++ [c] := by rw [HQ.out, alnum_yes (by rw [hC]; omega), ← hx]; rfl
        obtain ⟨y, hy⟩ : ∃ y, x = y := ⟨_, rfl⟩
        rw [hy] at hq hxl ⊢
        have hyl : y.length ≤ 1001 := by rw [← hy]; exact Nat.le_succ_of_le (by rw [hy]; exact hxl)
        have ct1 : ∀ W, (Op.stringOp .add ⟨y.toArray⟩ ⟨#[c]⟩).run Try.prog W = .ok (.string ⟨(y ++ [c]).toArray⟩) W := fun W => catS rfl (by simp; omega) W
        have HQ2 : Hid _ := hq
        clear hq hy HQ hx hc
        go_wp2_with fail
        go_roundw
        case rel => exact ⟨i + 1, by omega, by go_num, by rw [HQ2.out], trivial⟩
        case measure => simp only [intOf]; omega
      have g97 : decide ((C : Int) ≥ 97) = true := decide_eq_true (by omega)
      have h97 : decide ((97 : Int) ≤ (C : Int)) = true := decide_eq_true (by omega)
      have g65 : decide ((C : Int) ≥ 65) = true := decide_eq_true (by omega)
      have h65 : decide ((65 : Int) ≤ (C : Int)) = true := decide_eq_true (by omega)
      have g48 : decide ((C : Int) ≥ 48) = true := decide_eq_true (by omega)
      have h48 : decide ((48 : Int) ≤ (C : Int)) = true := decide_eq_true (by omega)
      have g122 : decide ((C : Int) ≤ 122) = false := decide_eq_false (by omega)
      have g90 : decide ((C : Int) ≤ 90) = false := decide_eq_false (by omega)
      have g57 : decide ((C : Int) ≤ 57) = false := decide_eq_false (by omega)
      have hq : quote (S.data.toList.take (i + 1)) = x ++ [92] ++ [c] := by rw [HQ.out, alnum_no (by rw [hC]; omega), ← hx]; simp
      have ct0 : ∀ W, (Op.stringOp .add ⟨x.toArray⟩ ⟨#[92]⟩).run Try.prog W = .ok (.string ⟨(x ++ [92]).toArray⟩) W := fun W => catS rfl (by simp; omega) W
      obtain ⟨y, hy⟩ : ∃ y, x ++ [92] = y := ⟨_, rfl⟩
      rw [hy] at ct0 hq
      have hyl : y.length ≤ 1001 := by rw [← hy]; simp; omega
      have ct1 : ∀ W, (Op.stringOp .add ⟨y.toArray⟩ ⟨#[c]⟩).run Try.prog W = .ok (.string ⟨(y ++ [c]).toArray⟩) W := fun W => catS rfl (by simp; omega) W
      have HQ2 : Hid _ := hq
      clear hq hy HQ hx hc
      go_wp2_with fail
      go_roundw
      case rel => exact ⟨i + 1, by omega, by go_num, by rw [HQ2.out], trivial⟩
      case measure => simp only [intOf]; omega
    · obtain rfl : i = n := by omega
      have dl : decide ((i : Int) < (i : Int)) = false := by simp
      rw [List.take_of_length_le (by rw [← hn]; simp)]
      have hql := quote_len S.data.toList
      have hsl : S.data.toList.length = i := by rw [← hn]; simp
      have HP : Hid _ := parse_tms ⟨(quote S.data.toList).toArray⟩ (by show (quote S.data.toList).toArray.size ≤ _; simp only [List.size_toArray]; omega) _ (parse_quote S.data.toList) wr
      clear hql
      by_cases h0 : S.data.toList = []
      · have hS : S = ⟨#[]⟩ := by
          cases S with
          | mk d => congr 1; exact Array.toList_inj.1 h0
        simp only [h0, if_true, List.length_nil] at HP
        rw [h0]
        subst hS
        go_wp2_with fail
        refine Calls.mono HP.out ?_
        rintro e w2 ⟨a, cap, rfl, hT, k2, q1, q2⟩
        have HK2 : Hid (Kp w w2) := kp_trans HK.out k2
        clear hT k2 q1 q2
        go_wp2_with fail
        go_ret
        exact ⟨rfl, HK2.out⟩
      · simp only [h0, if_false, List.length_cons, List.length_nil, Nat.zero_add] at HP
        have eS : S.toList.isEmpty = false := by
          rw [ByteArray.toList_eq S]
          cases h : S.data.toList with
          | nil => exact absurd h h0
          | cons _ _ => rfl
        have HS : Hid (S.data.toList.length = i) := hsl
        clear h0 hsl
        go_wp2_with fail
        refine Calls.mono HP.out ?_
        rintro e w2 ⟨a, cap, rfl, hT, k2, q1, q2⟩
        obtain ⟨g, rfl, c0, c1, c2, c3⟩ := hT.at (i := 0) rfl
        simp only [Nat.zero_mul, Nat.zero_add] at c0 c1 c2 c3
        rw [ba_list] at c1
        have HK2 : Hid (Kp w w2) := kp_trans HK.out k2
        unfold maxLen at q2
        clear hT k2
        go_wp2_with fail
        go_ret
        exact ⟨by simp, HK2.out⟩
end Go.Proofs.Ytbeaoonddlfcgaa
/- The document's Parse, Resolve and Same. -/
namespace Go.Proofs.Ytbeaoonddlfcgaa
open Go.ChangeShapes Go.WideShapes Go.ChangeAt Go.RowKit Go.Shelf
set_option linter.unusedVariables false
set_option linter.unusedSimpArgs false
theorem shut_par (l : List (UInt8 × Bool)) : Shut (parL l).1 :=
  (good_fold l ([], []) ⟨⟨fun _ h => (by cases h), fun i a b h => (by simp at h)⟩, fun t h => (by cases h)⟩).2
section
variable {S : ByteArray} {k : Nat} {pre : List (UInt8 × Bool)}
/-- What is left to read at k, when these signs have come. -/
def Rd7 (S : ByteArray) (pre : List (UInt8 × Bool)) (k : Nat) : Prop := sgns S.data.toList = pre ++ sgns (S.data.toList.drop k)
theorem Rd7.esc (h : Rd7 S pre k) (h1 : k + 1 < S.size) (hc : S[k]'(by omega) = 92) : Rd7 S (pre ++ [(S[k + 1]'h1, true)]) (k + 1 + 1) := by
  unfold Rd7 at *
  rw [h, drop_at (show k < S.size by omega), drop_at h1, hc, sgns_esc]; simp
theorem Rd7.one (h : Rd7 S pre k) (h1 : k < S.size) (hc : S[k]'h1 ≠ 92 ∨ ¬ k + 1 < S.size) : Rd7 S (pre ++ [(S[k]'h1, false)]) (k + 1) := by
  unfold Rd7 at *
  rw [h, drop_at h1, sgns_one]
  · simp
  · rcases hc with q | q
    · exact .inl q
    · exact .inr (List.drop_eq_nil_of_le (by have : S.data.toList.length = S.size := by simp
                                             omega))
theorem Rd7.len (h : Rd7 S pre k) : pre.length ≤ S.size := by
  have h1 := sgns_len S.data.toList
  unfold Rd7 at h
  rw [h] at h1
  simp at h1; omega
theorem Rd7.fin (h : Rd7 S pre S.size) : sgns S.data.toList = pre := by
  unfold Rd7 at h
  rw [h, List.drop_eq_nil_of_le (by simp)]; simp [sgns]
end
set_option maxHeartbeats 4000000 in
set_option maxRecDepth 100000 in
theorem yresolve_any (S L : ByteArray) (hS : S.size ≤ 2000) (hL : L.size ≤ 1000) (w : World) : Calls Try.prog 13 #[.string S, .string L] w fun e w' => e = .returned (.string ⟨(resF S.data.toList L.data.toList).toArray⟩) ∧ w' = w := by
  obtain ⟨N, hN⟩ : ∃ N, S.size = N := ⟨_, rfl⟩
  have hLl : L.data.toList.length ≤ 1000 := by simpa using hL
  have HL : Hid (∀ pre k, Rd7 S pre k → (resL L.data.toList pre).length ≤ 5000000) := fun pre k h => by
    have h1 := resL_len L.data.toList pre
    have h2 := h.len
    have h3 : pre.length * (L.data.toList.length + 2) ≤ 2000 * 1002 := Nat.mul_le_mul (by omega) (by omega)
    omega
  have HN : Hid (S.size = N) := hN
  go_enter Try.func13, Try.ntmps13
  go_wp2_with fail
  go_loopw [5, 6] (fun v5 v6 wr => ∃ (k : Nat) (pre : List (UInt8 × Bool)), k ≤ N ∧ v6 = .int .i64 k ∧ v5 = .string ⟨(resL L.data.toList pre).toArray⟩ ∧ Hid (Rd7 S pre k) ∧ wr = w) (fun _ v6 _ => N - (intOf v6).toNat)
  case atStart => exact ⟨0, [], Nat.zero_le _, rfl, rfl, by show Rd7 _ _ _; unfold Rd7; simp, rfl⟩
  case round =>
    obtain ⟨k, pre, hk, rfl, rfl, HJ, hw⟩ := hrel
    subst hw
    by_cases hlt : k < N
    · have hkS : k < S.size := by rw [hN]; exact hlt
      have d0 : decide ((k : Int) < (N : Int)) = true := decide_eq_true (by omega)
      obtain ⟨c, hc⟩ : ∃ c, S[k]'hkS = c := ⟨_, rfl⟩
      have hc256 : c.toNat < 256 := c.toNat_lt
      have hxl := HL.out pre k HJ.out
      obtain ⟨x, hx⟩ : ∃ x, resL L.data.toList pre = x := ⟨_, rfl⟩
      have HX : Hid (resL L.data.toList pre = x) := hx
      rw [hx] at hxl ⊢
      clear hx
      by_cases hesc : c = 92 ∧ k + 1 < N
      · obtain ⟨rfl, hk1⟩ := hesc
        have hk1S : k + 1 < S.size := by rw [hN]; exact hk1
        obtain ⟨d, hd⟩ : ∃ d, S[k + 1]'hk1S = d := ⟨_, rfl⟩
        have HT : Hid (Rd7 S (pre ++ [(d, true)]) (k + 1 + 1)) := by
          have := HJ.out.esc hk1S hc
          rw [hd] at this
          exact this
        have d1 : decide ((k : Int) + 1 < (N : Int)) = true := decide_eq_true (by omega)
        have hc' : (S[k]'hkS).toNat = 92 := by rw [hc]; rfl
        have sl : ∀ W, (Instr.slice 9 (.string S) (some (.int .i64 ((k : Int) + 1))) (some (.int .i64 ((k : Int) + 2))) none).run Try.prog W = .ok (.string ⟨#[d]⟩) W := fun W => by
          have := sub_one hk1S d hd W
          rw [show ((k + 1 : Nat) : Int) + 1 = (k : Int) + 2 by omega, show ((k + 1 : Nat) : Int) = (k : Int) + 1 by omega] at this
          exact this
        by_cases h6 : d = 126
        · subst h6
          have hd' : (S[k + 1]'hk1S).toNat = 126 := by rw [hd]; rfl
          have ct : ∀ W, (Op.stringOp .add ⟨x.toArray⟩ ⟨#[126]⟩).run Try.prog W = .ok (.string ⟨(x ++ [126]).toArray⟩) W := fun W => catS rfl (by simp; omega) W
          go_wp2_with fail
          go_roundw
          case rel => exact ⟨k + 1 + 1, _, by omega, by go_num, by rw [resL_snoc, HX.out]; rfl, HT, trivial⟩
          case measure => simp only [intOf]; omega
        · have h6' : d.toNat ≠ 126 := fun h => h6 (UInt8.toNat_inj.1 h)
          have e6 : ((d.toNat : Int) != 126) = true := by simp; omega
          have ct : ∀ W, (Op.stringOp .add ⟨x.toArray⟩ ⟨#[92]⟩).run Try.prog W = .ok (.string ⟨(x ++ [92]).toArray⟩) W := fun W => catS rfl (by simp; omega) W
          obtain ⟨y, hy⟩ : ∃ y, x ++ [92] = y := ⟨_, rfl⟩
          have HY : Hid (x ++ [92] = y) := hy
          have hyl : y.length ≤ 5000001 := by rw [← hy]; simp; omega
          rw [hy] at ct
          clear hy
          have ct2 : ∀ W, (Op.stringOp .add ⟨y.toArray⟩ ⟨#[d]⟩).run Try.prog W = .ok (.string ⟨(y ++ [d]).toArray⟩) W := fun W => catS rfl (by simp; omega) W
          have HH : Hid (resL L.data.toList (pre ++ [(d, true)]) = y ++ [d]) := by
            show _ = _
            rw [resL_snoc, HX.out, ← HY.out]; simp [resOne, h6]
          clear h6 h6'
          go_wp2_with fail
          go_roundw
          case rel => exact ⟨k + 1 + 1, _, by omega, by go_num, by rw [HH.out], HT, trivial⟩
          case measure => simp only [intOf]; omega
      · have HT : Hid (Rd7 S (pre ++ [(c, false)]) (k + 1)) := by
          have := HJ.out.one hkS (by
            rw [hc, hN]
            by_cases q : c = 92
            · exact .inr fun q2 => hesc ⟨q, q2⟩
            · exact .inl q)
          rw [hc] at this
          exact this
        have sl := sub_one hkS c hc
        have ct : ∀ W, (Op.stringOp .add ⟨x.toArray⟩ ⟨#[c]⟩).run Try.prog W = .ok (.string ⟨(x ++ [c]).toArray⟩) W := fun W => catS rfl (by simp; omega) W
        have HH : Hid (c ≠ 126 → resL L.data.toList (pre ++ [(c, false)]) = x ++ [c]) := fun h => by
          rw [resL_snoc, HX.out]; simp [resOne, h]
        by_cases h9 : c = 92
        · subst h9
          have hc' : (S[k]'hkS).toNat = 92 := by rw [hc]; rfl
          have d1 : decide ((k : Int) + 1 < (N : Int)) = false := decide_eq_false (by have : ¬ (k + 1 < N) := fun h => hesc ⟨rfl, h⟩
                                                                                      omega)
          clear hesc
          go_wp2_with fail
          go_roundw
          case rel => exact ⟨k + 1, _, by omega, by go_num, by rw [HH.out (by decide)], HT, trivial⟩
          case measure => simp only [intOf]; omega
        · have h9' : c.toNat ≠ 92 := fun h => h9 (UInt8.toNat_inj.1 h)
          have e9 : ((c.toNat : Int) == 92) = false := by simp; omega
          clear hesc h9
          by_cases h6 : c = 126
          · have HH2 : Hid (resL L.data.toList (pre ++ [(c, false)]) = x ++ L.data.toList) := by
              show _ = _
              rw [resL_snoc, HX.out]; simp [resOne, h6]
            have hc' : (S[k]'hkS).toNat = 126 := by rw [hc, h6]; rfl
            have ct3 : ∀ W, (Op.stringOp .add ⟨x.toArray⟩ L).run Try.prog W = .ok (.string ⟨(x ++ L.data.toList).toArray⟩) W := fun W => by
              have := catS (x := x) (y := L.data.toList) rfl (by rw [List.length_append]; omega) W
              rw [ba_list] at this
              exact this
            clear e9 h9' ct sl HH
            go_wp2_with fail
            go_roundw
            case rel => exact ⟨k + 1, _, by omega, by go_num, by rw [HH2.out], HT, trivial⟩
            case measure => simp only [intOf]; omega
          · have h6' : c.toNat ≠ 126 := fun h => h6 (UInt8.toNat_inj.1 h)
            have e6 : ((c.toNat : Int) == 126) = false := by simp; omega
            have HH2 : Hid _ := HH.out h6
            clear h6 h6' h9'
            go_wp2_with fail
            go_roundw
            case rel => exact ⟨k + 1, _, by omega, by go_num, by rw [HH2.out], HT, trivial⟩
            case measure => simp only [intOf]; omega
    · obtain rfl : k = N := by omega
      have d0 : decide ((k : Int) < (k : Int)) = false := by simp
      have HF : Hid (resF S.data.toList L.data.toList = resL L.data.toList pre) := by
        have := HJ.out
        rw [← hN] at this
        show _ = _
        unfold resF; rw [this.fin]
      go_wp2_with fail
      go_ret
      exact ⟨by rw [HF.out]; rfl, rfl⟩
end Go.Proofs.Ytbeaoonddlfcgaa
