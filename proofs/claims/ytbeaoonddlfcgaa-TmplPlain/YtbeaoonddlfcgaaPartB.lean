/- Texts that the proof of the law stands on: TK, TLR, TLL. -/
import Derived.Test.YtbeaoonddlfcgaaPartA
import Derived.Laws.Concat
/- The chapter's examples. -/
namespace Go.Proofs.Ytbeaoonddlfcgaa
open Go.ChangeShapes Go.WideShapes Go.ChangeAt Go.RowKit Go.Shelf
set_option linter.unusedVariables false
set_option linter.unusedSimpArgs false
theorem flatT_get {l : List Tm} {i : Nat} {t : Tm} (h : l[i]? = some t) (j : Nat) (hj : j < 4) : (flatT l)[i * 4 + j]? = t.cells[j]? := by
  induction l generalizing i with
  | nil => simp at h
  | cons a l ih =>
    have hc : a.cells.length = 4 := rfl
    cases i with
    | zero =>
      simp only [List.getElem?_cons_zero, Option.some.injEq] at h
      subst h
      simp only [flatT, List.flatMap_cons]
      rw [List.getElem?_append_left (by omega)]
      simp
    | succ i =>
      simp only [List.getElem?_cons_succ] at h
      have := ih h
      simp only [flatT, List.flatMap_cons] at *
      rw [List.getElem?_append_right (by omega), hc, show (i + 1) * 4 + j - 4 = i * 4 + j by omega]
      exact this
/-- Pieces in memory. -/
def Tms (v : Value) (l : List Tm) (w : World) : Prop := ∃ B, w.ownsRow B 27 4 v l.length (flatT l)
theorem Tms.kp {v : Value} {l : List Tm} {w w1 : World} (h : Tms v l w) (k : Kp w w1) : Tms v l w1 := by
  obtain ⟨B, h⟩ := h
  exact ⟨B, row_kp h k⟩
theorem Tms.form {v : Value} {l : List Tm} {w : World} (h : Tms v l w) : ∃ a cap, v = .slice a l.length cap ∧ l.length ≤ cap ∧ cap ≤ maxLen := by
  obtain ⟨B, h⟩ := h
  exact owns_form h
theorem Tms.at {a : Option Addr} {n cap : Nat} {l : List Tm} {w : World} (h : Tms (.slice a n cap) l w) {i : Nat} {t : Tm} (hi : l[i]? = some t) :
    ∃ g, a = some ⟨g, 0, none⟩ ∧ w.cell? ⟨g, i * 4, none⟩ = some (.int .u8 t.kd) ∧ w.cell? ⟨g, i * 4 + 1, none⟩ = some (.string ⟨t.tx.toArray⟩) ∧ w.cell? ⟨g, i * 4 + 2, none⟩ = some (.int .i64 t.n) ∧ w.cell? ⟨g, i * 4 + 3, none⟩ = some (.int .u8 t.c) := by
  obtain ⟨B, h⟩ := h
  have hlt := (List.getElem?_eq_some_iff.1 hi).1
  rcases h.2 with ⟨q, e⟩ | ⟨g, cap', cur, e, hb, hg, h1, h2, h3, h4⟩
  · omega
  · injection e with e _ _
    have key : ∀ j, j < 4 → w.cell? ⟨g, i * 4 + j, none⟩ = t.cells[j]? := fun j hj => by
      rw [cell_at hg, ← flatT_get hi j hj, ← h4, List.getElem?_take]
      rw [if_pos (by omega), Array.getElem?_toList]
    exact ⟨g, e, key 0 (by omega), key 1 (by omega), key 2 (by omega), key 3 (by omega)⟩
theorem parse_tms (S : ByteArray) (hS : S.size ≤ 2000) (l : List Tm) (hl : parseF S.data.toList = l) (w : World) : Calls Try.prog 9 #[.string S] w fun e w' => ∃ a cap, e = .returned (.slice a l.length cap) ∧ Tms (.slice a l.length cap) l w' ∧ Kp w w' ∧ l.length ≤ cap ∧ cap ≤ maxLen := by
  refine (parse_any S hS w).mono ?_
  rintro e w' ⟨⟨v, rfl, hr⟩, k⟩
  rw [hl] at hr
  obtain ⟨a, cap, rfl, h1, h2⟩ := owns_form hr
  exact ⟨a, cap, rfl, ⟨_, hr⟩, k, h1, h2⟩
theorem resolve_eq (S last : ByteArray) (hS : S.size ≤ 2000) (hl : last.size ≤ 1000) (x : List UInt8) (hx : resF S.data.toList last.data.toList = x) (w : World) : Calls Try.prog 12 #[.string S, .string last] w fun e w' => e = .returned (.string ⟨x.toArray⟩) ∧ Kp w w' := by
  rw [← hx]; exact resolve_any S last hS hl w
set_option maxHeartbeats 2000000 in
theorem known_any (w : World) : Calls Try.prog 8 #[] w fun e w' => e = .returned (.bool true) ∧ Kp w w' := by
  have HP : Hid _ := parse_tms ⟨#[97, 92, 117, 38, 92, 114]⟩ (by decide) [⟨1, [97], 0, 0⟩, ⟨4, [], 0, 117⟩, ⟨2, [], 0, 0⟩, ⟨3, [], 0, 0⟩] (by decide +kernel) w
  have HR : Hid _ := fun w => resolve_eq ⟨#[120, 126, 92, 126]⟩ ⟨#[38]⟩ (by decide) (by decide) [120, 38, 126] (by decide +kernel) w
  go_enter Try.func8, Try.ntmps8
  go_wp2_with fail
  refine Calls.mono HP.out ?_
  rintro e w1 ⟨a, cap, rfl, h1, k1, q1, q2⟩
  obtain ⟨g, rfl, c00, c01, c02, c03⟩ := h1.at (i := 0) rfl
  obtain ⟨g', e', c10, c11, c12, c13⟩ := h1.at (i := 1) rfl
  obtain ⟨g'', e'', c20, c21, c22, c23⟩ := h1.at (i := 2) rfl
  obtain ⟨g3, e3, c30, c31, c32, c33⟩ := h1.at (i := 3) rfl
  injection e' with e'
  injection e' with e'
  injection e'' with e''
  injection e'' with e''
  injection e3 with e3
  injection e3 with e3
  subst e' e'' e3
  simp only [Nat.reduceMul, Nat.reduceAdd, List.length_cons, List.length_nil] at c00 c01 c02 c03 c10 c11 c12 c13 c20 c21 c22 c23 c30 c31 c32 c33 q1 ⊢
  have HK : Hid (Kp w w1) := k1
  clear h1 k1
  unfold maxLen at q2
  go_wp2_with fail
  refine Calls.mono (HR.out w1) ?_
  rintro e w2 ⟨rfl, k2⟩
  have HK2 : Hid (Kp w w2) := kp_trans HK.out k2
  clear k2
  go_wp2_with fail
  go_ret
  exact ⟨rfl, HK2.out⟩
end Go.Proofs.Ytbeaoonddlfcgaa
/- TmplResolves: the walk. -/
namespace Go.Proofs.Ytbeaoonddlfcgaa
open Go.ChangeShapes Go.WideShapes Go.ChangeAt Go.RowKit Go.Shelf
set_option linter.unusedVariables false
set_option linter.unusedSimpArgs false
theorem res_same (s last : List UInt8) (h : ∀ b ∈ s, b ≠ 126) : resF s last = s := by
  unfold resF resL
  fun_induction sgns s with
  | case1 => rfl
  | case2 c => simp [resOne, h c (by simp)]
  | case3 d t ih =>
    rw [List.flatMap_cons, ih fun b hb => h b (by simp [hb])]
    simp [resOne, h d (by simp)]
  | case4 c d t h9 ih =>
    rw [List.flatMap_cons, ih fun b hb => h b (List.mem_cons_of_mem _ hb)]
    simp [resOne, h c (by simp)]
theorem ba_list (S : ByteArray) : (⟨S.data.toList.toArray⟩ : ByteArray) = S := by cases S; simp
theorem catS {x y z : List UInt8} (h : x ++ y = z) (hz : z.length ≤ 8000000) (W : World) : (Op.stringOp .add ⟨x.toArray⟩ ⟨y.toArray⟩).run Try.prog W = .ok (.string ⟨z.toArray⟩) W := by
  subst h
  rw [List.length_append] at hz
  exact run_string_add_lists W x y (by omega) (by omega)
/-- No ~ in the first i bytes. -/
def noT (s : List UInt8) : Bool := s.all fun b => b != 126
set_option maxHeartbeats 4000000 in
set_option maxRecDepth 100000 in
theorem resolves_walk (S L : ByteArray) (w : World) : Calls Try.prog 7 #[.string S, .string L] w fun e w' => e = .returned (.bool true) ∧ Kp w w' := by
  obtain ⟨n, hn⟩ : ∃ n, S.size = n := ⟨_, rfl⟩
  obtain ⟨m, hm⟩ : ∃ m, L.size = m := ⟨_, rfl⟩
  by_cases hbig : 500 < n
  · have d1 : decide ((n : Int) > 500) = true := decide_eq_true (by omega)
    have d1' : decide ((500 : Int) < (n : Int)) = true := decide_eq_true (by omega)
    go_enter Try.func7, Try.ntmps7
    go_wp2_with fail
    refine Calls.mono (known_any w) ?_
    rintro e w1 ⟨rfl, k1⟩
    go_wp2_with fail
    go_ret
    exact ⟨rfl, k1⟩
  have d1 : decide ((n : Int) > 500) = false := decide_eq_false (by omega)
  have d1' : decide ((500 : Int) < (n : Int)) = false := decide_eq_false (by omega)
  by_cases hbig2 : 500 < m
  · have d2 : decide ((m : Int) > 500) = true := decide_eq_true (by omega)
    have d2' : decide ((500 : Int) < (m : Int)) = true := decide_eq_true (by omega)
    go_enter Try.func7, Try.ntmps7
    go_wp2_with fail
    refine Calls.mono (known_any w) ?_
    rintro e w1 ⟨rfl, k1⟩
    go_wp2_with fail
    go_ret
    exact ⟨rfl, k1⟩
  have d2 : decide ((m : Int) > 500) = false := decide_eq_false (by omega)
  have d2' : decide ((500 : Int) < (m : Int)) = false := decide_eq_false (by omega)
  have HX : Hid (S.size = n ∧ L.size = m) := ⟨hn, hm⟩
  go_enter Try.func7, Try.ntmps7
  go_wp2_with fail
  refine Calls.mono (known_any w) ?_
  rintro e w1 ⟨rfl, k1⟩
  have HK : Hid (Kp w w1) := k1
  clear k1
  go_wp2_with fail
  go_loopw [5, 6] (fun v5 v6 wr => ∃ i : Nat, i ≤ n ∧ v6 = .int .i64 i ∧ v5 = .bool (noT (S.data.toList.take i)) ∧ wr = w1) (fun _ v6 _ => n - (intOf v6).toNat)
  case atStart => exact ⟨0, Nat.zero_le _, rfl, rfl, rfl⟩
  case round =>
    obtain ⟨i, hi, rfl, rfl, rfl⟩ := hrel
    by_cases hlt : i < n
    · have dl : decide ((i : Int) < (n : Int)) = true := decide_eq_true (by omega)
      have hil : i < S.size := by rw [hn]; exact hlt
      obtain ⟨c, hc⟩ : ∃ c, S[i]'hil = c := ⟨_, rfl⟩
      have HT : Hid (noT (S.data.toList.take (i + 1)) = (noT (S.data.toList.take i) && (c != 126))) := by
        show _ = _
        rw [List.take_add_one, show S.data.toList[i]? = some c by rw [← hc, List.getElem?_eq_getElem (by simpa using hil)]; rfl]
        simp [noT]
      cases hq : noT (S.data.toList.take i) with
      | false =>
        rw [hq] at HT
        go_wp2_with fail
        go_roundw
        case rel => exact ⟨i + 1, by omega, by go_num, by rw [HT.out]; rfl, trivial⟩
        case measure => simp only [intOf]; omega
      | true =>
        rw [hq] at HT
        by_cases h9 : c = 126
        · have hc' : (S[i]'hil).toNat = 126 := by rw [hc, h9]; rfl
          go_wp2_with fail
          go_roundw
          case rel => exact ⟨i + 1, by omega, by go_num, by rw [HT.out, h9]; rfl, trivial⟩
          case measure => simp only [intOf]; omega
        · have h9' : c.toNat ≠ 126 := fun h => h9 (UInt8.toNat_inj.1 h)
          have e9 : ((c.toNat : Int) != 126) = true := by simp; omega
          have hcc : (c != 126) = true := by simpa using h9
          rw [hcc] at HT
          go_wp2_with fail
          go_roundw
          case rel => exact ⟨i + 1, by omega, by go_num, by rw [HT.out]; rfl, trivial⟩
          case measure => simp only [intOf]; omega
    · obtain rfl : i = n := by omega
      have dl : decide ((i : Int) < (i : Int)) = false := by simp
      rw [List.take_of_length_le (by rw [← hn]; simp)]
      have HR : Hid (∀ w, (noT S.data.toList = true → Calls Try.prog 12 #[.string S, .string L] w fun e w' => e = .returned (.string S) ∧ Kp w w') ∧ (Calls Try.prog 12 #[.string ⟨#[126]⟩, .string L] w fun e w' => e = .returned (.string L) ∧ Kp w w') ∧
          (Calls Try.prog 12 #[.string ⟨#[97, 126, 98]⟩, .string L] w fun e w' => e = .returned (.string ⟨([97] ++ L.data.toList ++ [98]).toArray⟩) ∧ Kp w w') ∧ (Calls Try.prog 12 #[.string ⟨#[92, 126]⟩, .string L] w fun e w' => e = .returned (.string ⟨#[126]⟩) ∧ Kp w w')) := by
        obtain ⟨e1, e2⟩ := HX.out
        intro w
        refine ⟨fun h => ?_, ?_, resolve_eq _ _ (by decide) (by omega) _ (by simp [resF, sgns, resL, resOne]) w, resolve_eq _ _ (by decide) (by omega) [126] (by simp [resF, sgns, resL, resOne]) w⟩
        · have := resolve_eq S L (by omega) (by omega) S.data.toList (res_same _ _ fun b hb => by
            have := List.all_eq_true.1 h b hb
            simpa using this) w
          rw [ba_list] at this
          exact this
        · have := resolve_eq ⟨#[126]⟩ L (by decide) (by omega) L.data.toList (by simp [resF, sgns, resL, resOne]) w
          rw [ba_list] at this
          exact this
      obtain ⟨Z, hZ⟩ : ∃ Z : ByteArray, (⟨([97] ++ L.data.toList ++ [98]).toArray⟩ : ByteArray) = Z := ⟨_, rfl⟩
      obtain ⟨Y, hY⟩ : ∃ Y : ByteArray, (⟨([97] ++ L.data.toList).toArray⟩ : ByteArray) = Y := ⟨_, rfl⟩
      have cat1 : ∀ W, (Op.stringOp .add ⟨#[97]⟩ L).run Try.prog W = .ok (.string Y) W := fun W => by
        have := catS (x := [97]) (y := L.data.toList) rfl (by have := HX.out.2; simp; omega) W
        rw [ba_list, hY] at this
        exact this
      have cat2 : ∀ W, (Op.stringOp .add Y ⟨#[98]⟩).run Try.prog W = .ok (.string Z) W := fun W => by
        have := catS (x := [97] ++ L.data.toList) (y := [98]) rfl (by have := HX.out.2; simp; omega) W
        rw [hY, hZ] at this
        exact this
      rw [hZ] at HR
      clear hZ hY
      cases hq : noT S.data.toList with
      | true =>
        rw [hq] at HR
        go_wp2_with fail
        refine Calls.mono ((HR.out _).1 trivial) ?_
        rintro e w2 ⟨rfl, k2⟩
        have H2 : Hid (Kp w w2) := kp_trans HK.out k2
        clear k2
        go_wp2_with fail
        refine Calls.mono ((HR.out _).2.1) ?_
        rintro e w3 ⟨rfl, k3⟩
        have H3 : Hid (Kp w w3) := kp_trans H2.out k3
        clear k3
        go_wp2_with fail
        refine Calls.mono ((HR.out _).2.2.1) ?_
        rintro e w4 ⟨rfl, k4⟩
        have H4 : Hid (Kp w w4) := kp_trans H3.out k4
        clear k4
        go_wp2_with fail
        refine Calls.mono ((HR.out _).2.2.2) ?_
        rintro e w5 ⟨rfl, k5⟩
        have H5 : Hid (Kp w w5) := kp_trans H4.out k5
        clear k5
        go_wp2_with fail
        go_ret
        exact ⟨rfl, H5.out⟩
      | false =>
        go_wp2_with fail
        refine Calls.mono ((HR.out _).2.1) ?_
        rintro e w3 ⟨rfl, k3⟩
        have H3 : Hid (Kp w w3) := kp_trans HK.out k3
        clear k3
        go_wp2_with fail
        refine Calls.mono ((HR.out _).2.2.1) ?_
        rintro e w4 ⟨rfl, k4⟩
        have H4 : Hid (Kp w w4) := kp_trans H3.out k4
        clear k4
        go_wp2_with fail
        refine Calls.mono ((HR.out _).2.2.2) ?_
        rintro e w5 ⟨rfl, k5⟩
        have H5 : Hid (Kp w w5) := kp_trans H4.out k5
        clear k5
        go_wp2_with fail
        go_ret
        exact ⟨rfl, H5.out⟩
end Go.Proofs.Ytbeaoonddlfcgaa
/- TmplPlain: the walk. -/
namespace Go.Proofs.Ytbeaoonddlfcgaa
open Go.ChangeShapes Go.WideShapes Go.ChangeAt Go.RowKit Go.Shelf
set_option linter.unusedVariables false
set_option linter.unusedSimpArgs false
def alnum (c : UInt8) : Bool := decide ((97 ≤ c.toNat ∧ c.toNat ≤ 122) ∨ (65 ≤ c.toNat ∧ c.toNat ≤ 90) ∨ (48 ≤ c.toNat ∧ c.toNat ≤ 57))
theorem alnum_yes {c : UInt8} (h : (97 ≤ c.toNat ∧ c.toNat ≤ 122) ∨ (65 ≤ c.toNat ∧ c.toNat ≤ 90) ∨ (48 ≤ c.toNat ∧ c.toNat ≤ 57)) : alnum c = true := decide_eq_true h
theorem alnum_no {c : UInt8} (h : ¬ ((97 ≤ c.toNat ∧ c.toNat ≤ 122) ∨ (65 ≤ c.toNat ∧ c.toNat ≤ 90) ∨ (48 ≤ c.toNat ∧ c.toNat ≤ 57))) : alnum c = false := decide_eq_false h
def quo (c : UInt8) : List UInt8 := if alnum c then [c] else [92, c]
def quote (l : List UInt8) : List UInt8 := l.flatMap quo
theorem quote_len (l : List UInt8) : (quote l).length ≤ 2 * l.length := by
  induction l with
  | nil => simp [quote]
  | cons c l ih =>
    have : (quo c).length ≤ 2 := by unfold quo; split <;> simp
    simp only [quote, List.flatMap_cons, List.length_append, List.length_cons] at *
    omega
theorem sgns_quote (l : List UInt8) : sgns (quote l) = l.map fun c => (c, !alnum c) := by
  induction l with
  | nil => rfl
  | cons c l ih =>
    simp only [quote, List.flatMap_cons, List.map_cons] at *
    cases h : alnum c with
    | true =>
      have : c ≠ 92 := fun q => by rw [q] at h; exact absurd h (by decide)
      simp only [quo, h, if_true, List.singleton_append]
      rw [sgns_one (.inl this), ih]
      rfl
    | false =>
      simp only [quo, h, if_false, Bool.false_eq_true, List.cons_append, List.nil_append]
      rw [sgns_esc, ih]
      rfl
theorem piece_quote (c : UInt8) : pieceF (c, !alnum c) = none ∧ byteF (c, !alnum c) = c := by
  cases h : alnum c with
  | true =>
    have : c ≠ 38 := fun q => by rw [q] at h; exact absurd h (by decide)
    simp [pieceF, byteF, this]
  | false =>
    have hh := of_decide_eq_false h
    have key : ∀ k : UInt8, alnum k = true → c ≠ k := fun k hk q => by rw [q, hk] at h; cases h
    have h0 : ¬ (48 ≤ c.toNat ∧ c.toNat ≤ 57) := by omega
    simp [pieceF, byteF, h0, key 114 (by decide), key 117 (by decide), key 108 (by decide), key 85 (by decide), key 76 (by decide), key 101 (by decide), key 69 (by decide), key 110 (by decide), key 116 (by decide)]
theorem par_quote (l : List UInt8) (st : List Tm × List UInt8) : (l.map fun c => (c, !alnum c)).foldl stepP st = (st.1, st.2 ++ l) := by
  induction l generalizing st with
  | nil => simp
  | cons c l ih =>
    obtain ⟨h1, h2⟩ := piece_quote c
    rw [List.map_cons, List.foldl_cons, ih]
    simp [stepP, h1, h2]
theorem parse_quote (l : List UInt8) : parseF (quote l) = if l = [] then [] else [⟨1, l, 0, 0⟩] := by
  unfold parseF parL
  rw [sgns_quote, par_quote]
  simp [layF]
theorem sub_one {S : ByteArray} {i : Nat} (h : i < S.size) (c : UInt8) (hc : S[i]'h = c) (W : World) : (Instr.slice 9 (.string S) (some (.int .i64 (i : Int))) (some (.int .i64 ((i : Int) + 1))) none).run Try.prog W = .ok (.string ⟨#[c]⟩) W := by
  rw [run_slice_string (P := Try.prog) W 9 _ .i64 .i64 (i : Int) ((i : Int) + 1) Try.underlying9 (by omega) (by omega) (by omega)]
  have e : ((i : Int) + 1).toNat = i + 1 := by omega
  rw [Int.toNat_natCast, e]
  congr 2
  apply ByteArray.ext
  apply Array.ext
  · simp [ByteArray.size_data]; omega
  · intro j h1 h2
    simp at h2
    subst h2
    simp [← hc]
    rfl
set_option maxHeartbeats 4000000 in
set_option maxRecDepth 100000 in
theorem plain_walk (S : ByteArray) (w : World) : Calls Try.prog 6 #[.string S] w fun e w' => e = .returned (.bool true) ∧ Kp w w' := by
  obtain ⟨n, hn⟩ : ∃ n, S.size = n := ⟨_, rfl⟩
  by_cases hbig : 500 < n
  · have d1 : decide ((n : Int) > 500) = true := decide_eq_true (by omega)
    have d1' : decide ((500 : Int) < (n : Int)) = true := decide_eq_true (by omega)
    go_enter Try.func6, Try.ntmps6
    go_wp2_with fail
    refine Calls.mono (known_any w) ?_
    rintro e w1 ⟨rfl, k1⟩
    go_wp2_with fail
    go_ret
    exact ⟨rfl, k1⟩
  have d1 : decide ((n : Int) > 500) = false := decide_eq_false (by omega)
  have d1' : decide ((500 : Int) < (n : Int)) = false := decide_eq_false (by omega)
  go_enter Try.func6, Try.ntmps6
  go_wp2_with fail
  refine Calls.mono (known_any w) ?_
  rintro e w1 ⟨rfl, k1⟩
  have HK : Hid (Kp w w1) := k1
  clear k1
  go_wp2_with fail
  go_loopw [3, 4] (fun v3 v4 wr => ∃ i : Nat, i ≤ n ∧ v4 = .int .i64 i ∧ v3 = .string ⟨(quote (S.data.toList.take i)).toArray⟩ ∧ wr = w1) (fun _ v4 _ => n - (intOf v4).toNat)
  case atStart => exact ⟨0, Nat.zero_le _, rfl, rfl, rfl⟩
  case round =>
    obtain ⟨i, hi, rfl, rfl, rfl⟩ := hrel
    by_cases hlt : i < n
    · have dl : decide ((i : Int) < (n : Int)) = true := decide_eq_true (by omega)
      have hil : i < S.size := by rw [hn]; exact hlt
      obtain ⟨c, hc⟩ : ∃ c, S[i]'hil = c := ⟨_, rfl⟩
      have HQ : Hid (quote (S.data.toList.take (i + 1)) = quote (S.data.toList.take i) ++ (if alnum c then [c] else [92, c])) := by
        show _ = _
        rw [List.take_add_one, show S.data.toList[i]? = some c by rw [← hc, List.getElem?_eq_getElem (by simpa using hil)]; rfl]
        simp [quote, quo]
      have hxl0 := quote_len (S.data.toList.take i)
      obtain ⟨x, hx⟩ : ∃ x, quote (S.data.toList.take i) = x := ⟨_, rfl⟩
      rw [hx] at hxl0 ⊢
      have hxl : x.length ≤ 1000 := by
        have : (S.data.toList.take i).length ≤ i := by simp; omega
        omega
      clear hxl0
      have sl := sub_one hil c hc
      obtain ⟨C, hC⟩ : ∃ C, c.toNat = C := ⟨_, rfl⟩
      have hcc : (S[i]'hil).toNat = C := by rw [hc]; exact hC
      have hC256 : C < 256 := by rw [← hC]; exact c.toNat_lt
      by_cases q0 : C ≤ 47
      · have g97 : decide ((C : Int) ≥ 97) = false := decide_eq_false (by omega)
        have h97 : decide ((97 : Int) ≤ (C : Int)) = false := decide_eq_false (by omega)
        have g65 : decide ((C : Int) ≥ 65) = false := decide_eq_false (by omega)
        have h65 : decide ((65 : Int) ≤ (C : Int)) = false := decide_eq_false (by omega)
        have g48 : decide ((C : Int) ≥ 48) = false := decide_eq_false (by omega)
        have h48 : decide ((48 : Int) ≤ (C : Int)) = false := decide_eq_false (by omega)
        have g122 : decide ((C : Int) ≤ 122) = true := decide_eq_true (by omega)
        have g90 : decide ((C : Int) ≤ 90) = true := decide_eq_true (by omega)
        have g57 : decide ((C : Int) ≤ 57) = true := decide_eq_true (by omega)
        have hq : quote (S.data.toList.take (i + 1)) = x ++ [92] ++ [c] := by rw [HQ.out, alnum_no (by rw [hC]; omega), ← hx]; simp
        have ct0 : ∀ W, (Op.stringOp .add ⟨x.toArray⟩ ⟨#[92]⟩).run Try.prog W = .ok (.string ⟨(x ++ [92]).toArray⟩) W := fun W => catS rfl (by simp; omega) W
        obtain ⟨y, hy⟩ : ∃ y, x ++ [92] = y := ⟨_, rfl⟩
        rw [hy] at ct0 hq
        have hyl : y.length ≤ 1001 := by rw [← hy]; simp; omega
        have ct1 : ∀ W, (Op.stringOp .add ⟨y.toArray⟩ ⟨#[c]⟩).run Try.prog W = .ok (.string ⟨(y ++ [c]).toArray⟩) W := fun W => catS rfl (by simp; omega) W
        have HQ2 : Hid _ := hq
        clear hq hy HQ hx hc
        go_wp2_with fail
        go_roundw
        case rel => exact ⟨i + 1, by omega, by go_num, by rw [HQ2.out], trivial⟩
        case measure => simp only [intOf]; omega
      by_cases q1 : C ≤ 57
      · have g97 : decide ((C : Int) ≥ 97) = false := decide_eq_false (by omega)
        have h97 : decide ((97 : Int) ≤ (C : Int)) = false := decide_eq_false (by omega)
        have g65 : decide ((C : Int) ≥ 65) = false := decide_eq_false (by omega)
        have h65 : decide ((65 : Int) ≤ (C : Int)) = false := decide_eq_false (by omega)
        have g48 : decide ((C : Int) ≥ 48) = true := decide_eq_true (by omega)
        have h48 : decide ((48 : Int) ≤ (C : Int)) = true := decide_eq_true (by omega)
        have g122 : decide ((C : Int) ≤ 122) = true := decide_eq_true (by omega)
        have g90 : decide ((C : Int) ≤ 90) = true := decide_eq_true (by omega)
        have g57 : decide ((C : Int) ≤ 57) = true := decide_eq_true (by omega)
        have hq : quote (S.data.toList.take (i + 1)) = x ++ [c] := by rw [HQ.out, alnum_yes (by rw [hC]; omega), ← hx]; rfl
        obtain ⟨y, hy⟩ : ∃ y, x = y := ⟨_, rfl⟩
        rw [hy] at hq hxl ⊢
        have hyl : y.length ≤ 1001 := by rw [← hy]; exact Nat.le_succ_of_le (by rw [hy]; exact hxl)
        have ct1 : ∀ W, (Op.stringOp .add ⟨y.toArray⟩ ⟨#[c]⟩).run Try.prog W = .ok (.string ⟨(y ++ [c]).toArray⟩) W := fun W => catS rfl (by simp; omega) W
        have HQ2 : Hid _ := hq
        clear hq hy HQ hx hc
        go_wp2_with fail
        go_roundw
        case rel => exact ⟨i + 1, by omega, by go_num, by rw [HQ2.out], trivial⟩
        case measure => simp only [intOf]; omega
      by_cases q2 : C ≤ 64
      · have g97 : decide ((C : Int) ≥ 97) = false := decide_eq_false (by omega)
        have h97 : decide ((97 : Int) ≤ (C : Int)) = false := decide_eq_false (by omega)
        have g65 : decide ((C : Int) ≥ 65) = false := decide_eq_false (by omega)
        have h65 : decide ((65 : Int) ≤ (C : Int)) = false := decide_eq_false (by omega)
        have g48 : decide ((C : Int) ≥ 48) = true := decide_eq_true (by omega)
        have h48 : decide ((48 : Int) ≤ (C : Int)) = true := decide_eq_true (by omega)
        have g122 : decide ((C : Int) ≤ 122) = true := decide_eq_true (by omega)
        have g90 : decide ((C : Int) ≤ 90) = true := decide_eq_true (by omega)
        have g57 : decide ((C : Int) ≤ 57) = false := decide_eq_false (by omega)
        have hq : quote (S.data.toList.take (i + 1)) = x ++ [92] ++ [c] := by rw [HQ.out, alnum_no (by rw [hC]; omega), ← hx]; simp
        have ct0 : ∀ W, (Op.stringOp .add ⟨x.toArray⟩ ⟨#[92]⟩).run Try.prog W = .ok (.string ⟨(x ++ [92]).toArray⟩) W := fun W => catS rfl (by simp; omega) W
        obtain ⟨y, hy⟩ : ∃ y, x ++ [92] = y := ⟨_, rfl⟩
        rw [hy] at ct0 hq
        have hyl : y.length ≤ 1001 := by rw [← hy]; simp; omega
        have ct1 : ∀ W, (Op.stringOp .add ⟨y.toArray⟩ ⟨#[c]⟩).run Try.prog W = .ok (.string ⟨(y ++ [c]).toArray⟩) W := fun W => catS rfl (by simp; omega) W
        have HQ2 : Hid _ := hq
        clear hq hy HQ hx hc
        go_wp2_with fail
        go_roundw
        case rel => exact ⟨i + 1, by omega, by go_num, by rw [HQ2.out], trivial⟩
        case measure => simp only [intOf]; omega
      by_cases q3 : C ≤ 90
      · have g97 : decide ((C : Int) ≥ 97) = false := decide_eq_false (by omega)
        have h97 : decide ((97 : Int) ≤ (C : Int)) = false := decide_eq_false (by omega)
        have g65 : decide ((C : Int) ≥ 65) = true := decide_eq_true (by omega)
        have h65 : decide ((65 : Int) ≤ (C : Int)) = true := decide_eq_true (by omega)
        have g48 : decide ((C : Int) ≥ 48) = true := decide_eq_true (by omega)
        have h48 : decide ((48 : Int) ≤ (C : Int)) = true := decide_eq_true (by omega)
        have g122 : decide ((C : Int) ≤ 122) = true := decide_eq_true (by omega)
        have g90 : decide ((C : Int) ≤ 90) = true := decide_eq_true (by omega)
        have g57 : decide ((C : Int) ≤ 57) = false := decide_eq_false (by omega)
        have hq : quote (S.data.toList.take (i + 1)) = x ++ [c] := by rw [HQ.out, alnum_yes (by rw [hC]; omega), ← hx]; rfl
        obtain ⟨y, hy⟩ : ∃ y, x = y := ⟨_, rfl⟩
        rw [hy] at hq hxl ⊢
        have hyl : y.length ≤ 1001 := by rw [← hy]; exact Nat.le_succ_of_le (by rw [hy]; exact hxl)
        have ct1 : ∀ W, (Op.stringOp .add ⟨y.toArray⟩ ⟨#[c]⟩).run Try.prog W = .ok (.string ⟨(y ++ [c]).toArray⟩) W := fun W => catS rfl (by simp; omega) W
        have HQ2 : Hid _ := hq
        clear hq hy HQ hx hc
        go_wp2_with fail
        go_roundw
        case rel => exact ⟨i + 1, by omega, by go_num, by rw [HQ2.out], trivial⟩
        case measure => simp only [intOf]; omega
      by_cases q4 : C ≤ 96
      · have g97 : decide ((C : Int) ≥ 97) = false := decide_eq_false (by omega)
        have h97 : decide ((97 : Int) ≤ (C : Int)) = false := decide_eq_false (by omega)
        have g65 : decide ((C : Int) ≥ 65) = true := decide_eq_true (by omega)
        have h65 : decide ((65 : Int) ≤ (C : Int)) = true := decide_eq_true (by omega)
        have g48 : decide ((C : Int) ≥ 48) = true := decide_eq_true (by omega)
        have h48 : decide ((48 : Int) ≤ (C : Int)) = true := decide_eq_true (by omega)
        have g122 : decide ((C : Int) ≤ 122) = true := decide_eq_true (by omega)
        have g90 : decide ((C : Int) ≤ 90) = false := decide_eq_false (by omega)
        have g57 : decide ((C : Int) ≤ 57) = false := decide_eq_false (by omega)
        have hq : quote (S.data.toList.take (i + 1)) = x ++ [92] ++ [c] := by rw [HQ.out, alnum_no (by rw [hC]; omega), ← hx]; simp
        have ct0 : ∀ W, (Op.stringOp .add ⟨x.toArray⟩ ⟨#[92]⟩).run Try.prog W = .ok (.string ⟨(x ++ [92]).toArray⟩) W := fun W => catS rfl (by simp; omega) W
        obtain ⟨y, hy⟩ : ∃ y, x ++ [92] = y := ⟨_, rfl⟩
        rw [hy] at ct0 hq
        have hyl : y.length ≤ 1001 := by rw [← hy]; simp; omega
        have ct1 : ∀ W, (Op.stringOp .add ⟨y.toArray⟩ ⟨#[c]⟩).run Try.prog W = .ok (.string ⟨(y ++ [c]).toArray⟩) W := fun W => catS rfl (by simp; omega) W
        have HQ2 : Hid _ := hq
        clear hq hy HQ hx hc
        go_wp2_with fail
        go_roundw
        case rel => exact ⟨i + 1, by omega, by go_num, by rw [HQ2.out], trivial⟩
        case measure => simp only [intOf]; omega
      by_cases q5 : C ≤ 122
      · have g97 : decide ((C : Int) ≥ 97) = true := decide_eq_true (by omega)
        have h97 : decide ((97 : Int) ≤ (C : Int)) = true := decide_eq_true (by omega)
        have g65 : decide ((C : Int) ≥ 65) = true := decide_eq_true (by omega)
        have h65 : decide ((65 : Int) ≤ (C : Int)) = true := decide_eq_true (by omega)
        have g48 : decide ((C : Int) ≥ 48) = true := decide_eq_true (by omega)
        have h48 : decide ((48 : Int) ≤ (C : Int)) = true := decide_eq_true (by omega)
        have g122 : decide ((C : Int) ≤ 122) = true := decide_eq_true (by omega)
        have g90 : decide ((C : Int) ≤ 90) = false := decide_eq_false (by omega)
        have g57 : decide ((C : Int) ≤ 57) = false := decide_eq_false (by omega)
        have hq : quote (S.data.toList.take (i + 1)) = x ++ [c] := by rw [HQ.out, alnum_yes (by rw [hC]; omega), ← hx]; rfl
        obtain ⟨y, hy⟩ : ∃ y, x = y := ⟨_, rfl⟩
        rw [hy] at hq hxl ⊢
        have hyl : y.length ≤ 1001 := by rw [← hy]; exact Nat.le_succ_of_le (by rw [hy]; exact hxl)
        have ct1 : ∀ W, (Op.stringOp .add ⟨y.toArray⟩ ⟨#[c]⟩).run Try.prog W = .ok (.string ⟨(y ++ [c]).toArray⟩) W := fun W => catS rfl (by simp; omega) W
        have HQ2 : Hid _ := hq
        clear hq hy HQ hx hc
        go_wp2_with fail
        go_roundw
        case rel => exact ⟨i + 1, by omega, by go_num, by rw [HQ2.out], trivial⟩
        case measure => simp only [intOf]; omega
      have g97 : decide ((C : Int) ≥ 97) = true := decide_eq_true (by omega)
      have h97 : decide ((97 : Int) ≤ (C : Int)) = true := decide_eq_true (by omega)
      have g65 : decide ((C : Int) ≥ 65) = true := decide_eq_true (by omega)
      have h65 : decide ((65 : Int) ≤ (C : Int)) = true := decide_eq_true (by omega)
      have g48 : decide ((C : Int) ≥ 48) = true := decide_eq_true (by omega)
      have h48 : decide ((48 : Int) ≤ (C : Int)) = true := decide_eq_true (by omega)
      have g122 : decide ((C : Int) ≤ 122) = false := decide_eq_false (by omega)
      have g90 : decide ((C : Int) ≤ 90) = false := decide_eq_false (by omega)
      have g57 : decide ((C : Int) ≤ 57) = false := decide_eq_false (by omega)
      have hq : quote (S.data.toList.take (i + 1)) = x ++ [92] ++ [c] := by rw [HQ.out, alnum_no (by rw [hC]; omega), ← hx]; simp
      have ct0 : ∀ W, (Op.stringOp .add ⟨x.toArray⟩ ⟨#[92]⟩).run Try.prog W = .ok (.string ⟨(x ++ [92]).toArray⟩) W := fun W => catS rfl (by simp; omega) W
      obtain ⟨y, hy⟩ : ∃ y, x ++ [92] = y := ⟨_, rfl⟩
      rw [hy] at ct0 hq
      have hyl : y.length ≤ 1001 := by rw [← hy]; simp; omega
      have ct1 : ∀ W, (Op.stringOp .add ⟨y.toArray⟩ ⟨#[c]⟩).run Try.prog W = .ok (.string ⟨(y ++ [c]).toArray⟩) W := fun W => catS rfl (by simp; omega) W
      have HQ2 : Hid _ := hq
      clear hq hy HQ hx hc
      go_wp2_with fail
      go_roundw
      case rel => exact ⟨i + 1, by omega, by go_num, by rw [HQ2.out], trivial⟩
      case measure => simp only [intOf]; omega
    · obtain rfl : i = n := by omega
      have dl : decide ((i : Int) < (i : Int)) = false := by simp
      rw [List.take_of_length_le (by rw [← hn]; simp)]
      have hql := quote_len S.data.toList
      have hsl : S.data.toList.length = i := by rw [← hn]; simp
      have HP : Hid _ := parse_tms ⟨(quote S.data.toList).toArray⟩ (by show (quote S.data.toList).toArray.size ≤ _; simp only [List.size_toArray]; omega) _ (parse_quote S.data.toList) wr
      clear hql
      by_cases h0 : S.data.toList = []
      · have hS : S = ⟨#[]⟩ := by
          cases S with
          | mk d => congr 1; exact Array.toList_inj.1 h0
        simp only [h0, if_true, List.length_nil] at HP
        rw [h0]
        subst hS
        go_wp2_with fail
        refine Calls.mono HP.out ?_
        rintro e w2 ⟨a, cap, rfl, hT, k2, q1, q2⟩
        have HK2 : Hid (Kp w w2) := kp_trans HK.out k2
        clear hT k2 q1 q2
        go_wp2_with fail
        go_ret
        exact ⟨rfl, HK2.out⟩
      · simp only [h0, if_false, List.length_cons, List.length_nil, Nat.zero_add] at HP
        have eS : S.toList.isEmpty = false := by
          rw [ByteArray.toList_eq S]
          cases h : S.data.toList with
          | nil => exact absurd h h0
          | cons _ _ => rfl
        have HS : Hid (S.data.toList.length = i) := hsl
        clear h0 hsl
        go_wp2_with fail
        refine Calls.mono HP.out ?_
        rintro e w2 ⟨a, cap, rfl, hT, k2, q1, q2⟩
        obtain ⟨g, rfl, c0, c1, c2, c3⟩ := hT.at (i := 0) rfl
        simp only [Nat.zero_mul, Nat.zero_add] at c0 c1 c2 c3
        rw [ba_list] at c1
        have HK2 : Hid (Kp w w2) := kp_trans HK.out k2
        unfold maxLen at q2
        clear hT k2
        go_wp2_with fail
        go_ret
        exact ⟨by simp, HK2.out⟩
end Go.Proofs.Ytbeaoonddlfcgaa
