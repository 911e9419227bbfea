/- Texts that the proof of the law stands on: TK, TLR, TLA, TLB. -/
import Derived.Test.YtbeaoonddlfcgaaPartA
import Derived.Laws.Concat
/- The chapter's examples. -/
namespace Go.Proofs.Ytbeaoonddlfcgaa
open Go.ChangeShapes Go.WideShapes Go.ChangeAt Go.RowKit Go.Shelf
set_option linter.unusedVariables false
set_option linter.unusedSimpArgs false
theorem flatT_get {l : List Tm} {i : Nat} {t : Tm} (h : l[i]? = some t) (j : Nat) (hj : j < 4) : (flatT l)[i * 4 + j]? = t.cells[j]? := by
  induction l generalizing i with
  | nil => simp at h
  | cons a l ih =>
    have hc : a.cells.length = 4 := rfl
    cases i with
    | zero =>
      simp only [List.getElem?_cons_zero, Option.some.injEq] at h
      subst h
      simp only [flatT, List.flatMap_cons]
      rw [List.getElem?_append_left (by omega)]
      simp
    | succ i =>
      simp only [List.getElem?_cons_succ] at h
      have := ih h
      simp only [flatT, List.flatMap_cons] at *
      rw [List.getElem?_append_right (by omega), hc, show (i + 1) * 4 + j - 4 = i * 4 + j by omega]
      exact this
/-- Pieces in memory. -/
def Tms (v : Value) (l : List Tm) (w : World) : Prop := ∃ B, w.ownsRow B 27 4 v l.length (flatT l)
theorem Tms.kp {v : Value} {l : List Tm} {w w1 : World} (h : Tms v l w) (k : Kp w w1) : Tms v l w1 := by
  obtain ⟨B, h⟩ := h
  exact ⟨B, row_kp h k⟩
theorem Tms.form {v : Value} {l : List Tm} {w : World} (h : Tms v l w) : ∃ a cap, v = .slice a l.length cap ∧ l.length ≤ cap ∧ cap ≤ maxLen := by
  obtain ⟨B, h⟩ := h
  exact owns_form h
theorem Tms.at {a : Option Addr} {n cap : Nat} {l : List Tm} {w : World} (h : Tms (.slice a n cap) l w) {i : Nat} {t : Tm} (hi : l[i]? = some t) :
    ∃ g, a = some ⟨g, 0, none⟩ ∧ w.cell? ⟨g, i * 4, none⟩ = some (.int .u8 t.kd) ∧ w.cell? ⟨g, i * 4 + 1, none⟩ = some (.string ⟨t.tx.toArray⟩) ∧ w.cell? ⟨g, i * 4 + 2, none⟩ = some (.int .i64 t.n) ∧ w.cell? ⟨g, i * 4 + 3, none⟩ = some (.int .u8 t.c) := by
  obtain ⟨B, h⟩ := h
  have hlt := (List.getElem?_eq_some_iff.1 hi).1
  rcases h.2 with ⟨q, e⟩ | ⟨g, cap', cur, e, hb, hg, h1, h2, h3, h4⟩
  · omega
  · injection e with e _ _
    have key : ∀ j, j < 4 → w.cell? ⟨g, i * 4 + j, none⟩ = t.cells[j]? := fun j hj => by
      rw [cell_at hg, ← flatT_get hi j hj, ← h4, List.getElem?_take]
      rw [if_pos (by omega), Array.getElem?_toList]
    exact ⟨g, e, key 0 (by omega), key 1 (by omega), key 2 (by omega), key 3 (by omega)⟩
theorem parse_tms (S : ByteArray) (hS : S.size ≤ 2000) (l : List Tm) (hl : parseF S.data.toList = l) (w : World) : Calls Try.prog 9 #[.string S] w fun e w' => ∃ a cap, e = .returned (.slice a l.length cap) ∧ Tms (.slice a l.length cap) l w' ∧ Kp w w' ∧ l.length ≤ cap ∧ cap ≤ maxLen := by
  refine (parse_any S hS w).mono ?_
  rintro e w' ⟨⟨v, rfl, hr⟩, k⟩
  rw [hl] at hr
  obtain ⟨a, cap, rfl, h1, h2⟩ := owns_form hr
  exact ⟨a, cap, rfl, ⟨_, hr⟩, k, h1, h2⟩
theorem resolve_eq (S last : ByteArray) (hS : S.size ≤ 2000) (hl : last.size ≤ 1000) (x : List UInt8) (hx : resF S.data.toList last.data.toList = x) (w : World) : Calls Try.prog 12 #[.string S, .string last] w fun e w' => e = .returned (.string ⟨x.toArray⟩) ∧ Kp w w' := by
  rw [← hx]; exact resolve_any S last hS hl w
set_option maxHeartbeats 2000000 in
theorem known_any (w : World) : Calls Try.prog 8 #[] w fun e w' => e = .returned (.bool true) ∧ Kp w w' := by
  have HP : Hid _ := parse_tms ⟨#[97, 92, 117, 38, 92, 114]⟩ (by decide) [⟨1, [97], 0, 0⟩, ⟨4, [], 0, 117⟩, ⟨2, [], 0, 0⟩, ⟨3, [], 0, 0⟩] (by decide +kernel) w
  have HR : Hid _ := fun w => resolve_eq ⟨#[120, 126, 92, 126]⟩ ⟨#[38]⟩ (by decide) (by decide) [120, 38, 126] (by decide +kernel) w
  go_enter Try.func8, Try.ntmps8
  go_wp2_with fail
  refine Calls.mono HP.out ?_
  rintro e w1 ⟨a, cap, rfl, h1, k1, q1, q2⟩
  obtain ⟨g, rfl, c00, c01, c02, c03⟩ := h1.at (i := 0) rfl
  obtain ⟨g', e', c10, c11, c12, c13⟩ := h1.at (i := 1) rfl
  obtain ⟨g'', e'', c20, c21, c22, c23⟩ := h1.at (i := 2) rfl
  obtain ⟨g3, e3, c30, c31, c32, c33⟩ := h1.at (i := 3) rfl
  injection e' with e'
  injection e' with e'
  injection e'' with e''
  injection e'' with e''
  injection e3 with e3
  injection e3 with e3
  subst e' e'' e3
  simp only [Nat.reduceMul, Nat.reduceAdd, List.length_cons, List.length_nil] at c00 c01 c02 c03 c10 c11 c12 c13 c20 c21 c22 c23 c30 c31 c32 c33 q1 ⊢
  have HK : Hid (Kp w w1) := k1
  clear h1 k1
  unfold maxLen at q2
  go_wp2_with fail
  refine Calls.mono (HR.out w1) ?_
  rintro e w2 ⟨rfl, k2⟩
  have HK2 : Hid (Kp w w2) := kp_trans HK.out k2
  clear k2
  go_wp2_with fail
  go_ret
  exact ⟨rfl, HK2.out⟩
end Go.Proofs.Ytbeaoonddlfcgaa
/- TmplResolves: the walk. -/
namespace Go.Proofs.Ytbeaoonddlfcgaa
open Go.ChangeShapes Go.WideShapes Go.ChangeAt Go.RowKit Go.Shelf
set_option linter.unusedVariables false
set_option linter.unusedSimpArgs false
theorem res_same (s last : List UInt8) (h : ∀ b ∈ s, b ≠ 126) : resF s last = s := by
  unfold resF resL
  fun_induction sgns s with
  | case1 => rfl
  | case2 c => simp [resOne, h c (by simp)]
  | case3 d t ih =>
    rw [List.flatMap_cons, ih fun b hb => h b (by simp [hb])]
    simp [resOne, h d (by simp)]
  | case4 c d t h9 ih =>
    rw [List.flatMap_cons, ih fun b hb => h b (List.mem_cons_of_mem _ hb)]
    simp [resOne, h c (by simp)]
theorem ba_list (S : ByteArray) : (⟨S.data.toList.toArray⟩ : ByteArray) = S := by cases S; simp
theorem catS {x y z : List UInt8} (h : x ++ y = z) (hz : z.length ≤ 8000000) (W : World) : (Op.stringOp .add ⟨x.toArray⟩ ⟨y.toArray⟩).run Try.prog W = .ok (.string ⟨z.toArray⟩) W := by
  subst h
  rw [List.length_append] at hz
  exact run_string_add_lists W x y (by omega) (by omega)
/-- No ~ in the first i bytes. -/
def noT (s : List UInt8) : Bool := s.all fun b => b != 126
set_option maxHeartbeats 4000000 in
set_option maxRecDepth 100000 in
theorem resolves_walk (S L : ByteArray) (w : World) : Calls Try.prog 7 #[.string S, .string L] w fun e w' => e = .returned (.bool true) ∧ Kp w w' := by
  obtain ⟨n, hn⟩ : ∃ n, S.size = n := ⟨_, rfl⟩
  obtain ⟨m, hm⟩ : ∃ m, L.size = m := ⟨_, rfl⟩
  by_cases hbig : 500 < n
  · have d1 : decide ((n : Int) > 500) = true := decide_eq_true (by omega)
    have d1' : decide ((500 : Int) < (n : Int)) = true := decide_eq_true (by omega)
    go_enter Try.func7, Try.ntmps7
    go_wp2_with fail
    refine Calls.mono (known_any w) ?_
    rintro e w1 ⟨rfl, k1⟩
    go_wp2_with fail
    go_ret
    exact ⟨rfl, k1⟩
  have d1 : decide ((n : Int) > 500) = false := decide_eq_false (by omega)
  have d1' : decide ((500 : Int) < (n : Int)) = false := decide_eq_false (by omega)
  by_cases hbig2 : 500 < m
  · have d2 : decide ((m : Int) > 500) = true := decide_eq_true (by omega)
    have d2' : decide ((500 : Int) < (m : Int)) = true := decide_eq_true (by omega)
    go_enter Try.func7, Try.ntmps7
    go_wp2_with fail
    refine Calls.mono (known_any w) ?_
    rintro e w1 ⟨rfl, k1⟩
    go_wp2_with fail
    go_ret
    exact ⟨rfl, k1⟩
  have d2 : decide ((m : Int) > 500) = false := decide_eq_false (by omega)
  have d2' : decide ((500 : Int) < (m : Int)) = false := decide_eq_false (by omega)
  have HX : Hid (S.size = n ∧ L.size = m) := ⟨hn, hm⟩
  go_enter Try.func7, Try.ntmps7
  go_wp2_with fail
  refine Calls.mono (known_any w) ?_
  rintro e w1 ⟨rfl, k1⟩
  have HK : Hid (Kp w w1) := k1
  clear k1
  go_wp2_with fail
  go_loopw [5, 6] (fun v5 v6 wr => ∃ i : Nat, i ≤ n ∧ v6 = .int .i64 i ∧ v5 = .bool (noT (S.data.toList.take i)) ∧ wr = w1) (fun _ v6 _ => n - (intOf v6).toNat)
  case atStart => exact ⟨0, Nat.zero_le _, rfl, rfl, rfl⟩
  case round =>
    obtain ⟨i, hi, rfl, rfl, rfl⟩ := hrel
    by_cases hlt : i < n
    · have dl : decide ((i : Int) < (n : Int)) = true := decide_eq_true (by omega)
      have hil : i < S.size := by rw [hn]; exact hlt
      obtain ⟨c, hc⟩ : ∃ c, S[i]'hil = c := ⟨_, rfl⟩
      have HT : Hid (noT (S.data.toList.take (i + 1)) = (noT (S.data.toList.take i) && (c != 126))) := by
        show _ = _
        rw [List.take_add_one, show S.data.toList[i]? = some c by rw [← hc, List.getElem?_eq_getElem (by simpa using hil)]; rfl]
        simp [noT]
      cases hq : noT (S.data.toList.take i) with
      | false =>
        rw [hq] at HT
        go_wp2_with fail
        go_roundw
        case rel => exact ⟨i + 1, by omega, by go_num, by rw [HT.out]; rfl, trivial⟩
        case measure => simp only [intOf]; omega
      | true =>
        rw [hq] at HT
        by_cases h9 : c = 126
        · have hc' : (S[i]'hil).toNat = 126 := by rw [hc, h9]; rfl
          go_wp2_with fail
          go_roundw
          case rel => exact ⟨i + 1, by omega, by go_num, by rw [HT.out, h9]; rfl, trivial⟩
          case measure => simp only [intOf]; omega
        · have h9' : c.toNat ≠ 126 := fun h => h9 (UInt8.toNat_inj.1 h)
          have e9 : ((c.toNat : Int) != 126) = true := by simp; omega
          have hcc : (c != 126) = true := by simpa using h9
          rw [hcc] at HT
          go_wp2_with fail
          go_roundw
          case rel => exact ⟨i + 1, by omega, by go_num, by rw [HT.out]; rfl, trivial⟩
          case measure => simp only [intOf]; omega
    · obtain rfl : i = n := by omega
      have dl : decide ((i : Int) < (i : Int)) = false := by simp
      rw [List.take_of_length_le (by rw [← hn]; simp)]
      have HR : Hid (∀ w, (noT S.data.toList = true → Calls Try.prog 12 #[.string S, .string L] w fun e w' => e = .returned (.string S) ∧ Kp w w') ∧ (Calls Try.prog 12 #[.string ⟨#[126]⟩, .string L] w fun e w' => e = .returned (.string L) ∧ Kp w w') ∧
          (Calls Try.prog 12 #[.string ⟨#[97, 126, 98]⟩, .string L] w fun e w' => e = .returned (.string ⟨([97] ++ L.data.toList ++ [98]).toArray⟩) ∧ Kp w w') ∧ (Calls Try.prog 12 #[.string ⟨#[92, 126]⟩, .string L] w fun e w' => e = .returned (.string ⟨#[126]⟩) ∧ Kp w w')) := by
        obtain ⟨e1, e2⟩ := HX.out
        intro w
        refine ⟨fun h => ?_, ?_, resolve_eq _ _ (by decide) (by omega) _ (by simp [resF, sgns, resL, resOne]) w, resolve_eq _ _ (by decide) (by omega) [126] (by simp [resF, sgns, resL, resOne]) w⟩
        · have := resolve_eq S L (by omega) (by omega) S.data.toList (res_same _ _ fun b hb => by
            have := List.all_eq_true.1 h b hb
            simpa using this) w
          rw [ba_list] at this
          exact this
        · have := resolve_eq ⟨#[126]⟩ L (by decide) (by omega) L.data.toList (by simp [resF, sgns, resL, resOne]) w
          rw [ba_list] at this
          exact this
      obtain ⟨Z, hZ⟩ : ∃ Z : ByteArray, (⟨([97] ++ L.data.toList ++ [98]).toArray⟩ : ByteArray) = Z := ⟨_, rfl⟩
      obtain ⟨Y, hY⟩ : ∃ Y : ByteArray, (⟨([97] ++ L.data.toList).toArray⟩ : ByteArray) = Y := ⟨_, rfl⟩
      have cat1 : ∀ W, (Op.stringOp .add ⟨#[97]⟩ L).run Try.prog W = .ok (.string Y) W := fun W => by
        have := catS (x := [97]) (y := L.data.toList) rfl (by have := HX.out.2; simp; omega) W
        rw [ba_list, hY] at this
        exact this
      have cat2 : ∀ W, (Op.stringOp .add Y ⟨#[98]⟩).run Try.prog W = .ok (.string Z) W := fun W => by
        have := catS (x := [97] ++ L.data.toList) (y := [98]) rfl (by have := HX.out.2; simp; omega) W
        rw [hY, hZ] at this
        exact this
      rw [hZ] at HR
      clear hZ hY
      cases hq : noT S.data.toList with
      | true =>
        rw [hq] at HR
        go_wp2_with fail
        refine Calls.mono ((HR.out _).1 trivial) ?_
        rintro e w2 ⟨rfl, k2⟩
        have H2 : Hid (Kp w w2) := kp_trans HK.out k2
        clear k2
        go_wp2_with fail
        refine Calls.mono ((HR.out _).2.1) ?_
        rintro e w3 ⟨rfl, k3⟩
        have H3 : Hid (Kp w w3) := kp_trans H2.out k3
        clear k3
        go_wp2_with fail
        refine Calls.mono ((HR.out _).2.2.1) ?_
        rintro e w4 ⟨rfl, k4⟩
        have H4 : Hid (Kp w w4) := kp_trans H3.out k4
        clear k4
        go_wp2_with fail
        refine Calls.mono ((HR.out _).2.2.2) ?_
        rintro e w5 ⟨rfl, k5⟩
        have H5 : Hid (Kp w w5) := kp_trans H4.out k5
        clear k5
        go_wp2_with fail
        go_ret
        exact ⟨rfl, H5.out⟩
      | false =>
        go_wp2_with fail
        refine Calls.mono ((HR.out _).2.1) ?_
        rintro e w3 ⟨rfl, k3⟩
        have H3 : Hid (Kp w w3) := kp_trans HK.out k3
        clear k3
        go_wp2_with fail
        refine Calls.mono ((HR.out _).2.2.1) ?_
        rintro e w4 ⟨rfl, k4⟩
        have H4 : Hid (Kp w w4) := kp_trans H3.out k4
        clear k4
        go_wp2_with fail
        refine Calls.mono ((HR.out _).2.2.2) ?_
        rintro e w5 ⟨rfl, k5⟩
        have H5 : Hid (Kp w w5) := kp_trans H4.out k5
        clear k5
        go_wp2_with fail
        go_ret
        exact ⟨rfl, H5.out⟩
end Go.Proofs.Ytbeaoonddlfcgaa
/- TmplParts: the walk. -/
namespace Go.Proofs.Ytbeaoonddlfcgaa
open Go.ChangeShapes Go.WideShapes Go.ChangeAt Go.RowKit Go.Shelf
set_option linter.unusedVariables false
set_option linter.unusedSimpArgs false
/-- Does a text end with a backslash alone? -/
def opn (o : Bool) : List UInt8 → Bool
  | [] => o
  | c :: t => opn (c == 92 && !o) t
theorem opn_snoc (l : List UInt8) (c : UInt8) (o : Bool) : opn o (l ++ [c]) = (c == 92 && !opn o l) := by
  induction l generalizing o with
  | nil => rfl
  | cons d l ih => simp only [List.cons_append, opn]; exact ih _
theorem sgns_append (s t : List UInt8) (h : opn false s = false) : sgns (s ++ t) = sgns s ++ sgns t := by
  fun_induction sgns s with
  | case1 => rfl
  | case2 c =>
    have : c ≠ 92 := fun q => by rw [q] at h; cases h
    rw [List.singleton_append, sgns_one (.inl this)]; rfl
  | case3 d s ih =>
    have h' : opn false s = false := by
      simp only [opn] at h
      simpa using h
    rw [List.cons_append, List.cons_append, sgns_esc, ih h']; rfl
  | case4 c d s h9 ih =>
    have h' : opn false (d :: s) = false := by
      have e : (c == 92) = false := by simpa using h9
      rw [opn, e] at h
      exact h
    rw [List.cons_append, sgns_one (.inl h9), ih h']; rfl
theorem layF_pre (X l : List Tm) (xs : List UInt8) : layF xs (X ++ l) = X ++ layF xs l := by
  unfold layF; split
  · rfl
  · rw [List.append_assoc]
theorem fold_pre (B : List (UInt8 × Bool)) (X l : List Tm) (xs : List UInt8) : B.foldl stepP (X ++ l, xs) = (X ++ (B.foldl stepP (l, xs)).1, (B.foldl stepP (l, xs)).2) := by
  induction B generalizing l xs with
  | nil => rfl
  | cons p B ih =>
    rw [List.foldl_cons, List.foldl_cons]
    have : stepP (X ++ l, xs) p = (X ++ (stepP (l, xs) p).1, (stepP (l, xs) p).2) := by
      unfold stepP
      split
      · simp only [layF_pre, List.append_assoc]
      · rfl
    rw [this, ih]
theorem parse_parts (s t : List UInt8) (d : UInt8) (h : opn false s = false) (hd : 48 ≤ d.toNat ∧ d.toNat ≤ 57) : parseF (s ++ 92 :: d :: t) = parseF s ++ [⟨2, [], d.toNat - 48, 0⟩] ++ parseF t := by
  have hp : pieceF (d, true) = some ⟨2, [], d.toNat - 48, 0⟩ := by simp [pieceF, hd]
  unfold parseF parL
  rw [sgns_append _ _ h, sgns_esc, List.foldl_append, List.foldl_cons]
  have hs : stepP ((sgns s).foldl stepP ([], [])) (d, true) = (layF ((sgns s).foldl stepP ([], [])).2 ((sgns s).foldl stepP ([], [])).1 ++ [⟨2, [], d.toNat - 48, 0⟩] ++ [], []) := by
    unfold stepP; rw [hp]; simp
  rw [hs, fold_pre, layF_pre]
end Go.Proofs.Ytbeaoonddlfcgaa
/- TmplParts: the walk. -/
namespace Go.Proofs.Ytbeaoonddlfcgaa
open Go.ChangeShapes Go.WideShapes Go.ChangeAt Go.RowKit Go.Shelf
set_option linter.unusedVariables false
set_option linter.unusedSimpArgs false
theorem one_str (W : World) (d : UInt8) (D : Int) (hD : D = (d.toNat : Int)) : (convert 25 9 (.slice (some ⟨W.heap.size, 0, none⟩) 1 1)).run Try.prog (W.alloc (.cells #[.int .u8 D] 5)) = .ok (.string ⟨#[d]⟩) (W.alloc (.cells #[.int .u8 D] 5)) := by
  subst hD
  refine run_convert_bytes_back _ 25 9 5 ⟨W.heap.size, 0, none⟩ 1 [d] Try.underlying25 Try.underlying5 Try.underlying9 fun j hj => ?_
  simp at hj
  subst hj
  rw [addr_add, cell_at (alloc_new W _)]
  rfl
set_option maxHeartbeats 4000000 in
set_option maxRecDepth 100000 in
theorem parts_walk (S L : ByteArray) (n : Nat) (hn : n < 256) (w : World) : Calls Try.prog 3 #[.string S, .string L, .int .u8 n] w fun e w' => e = .returned (.bool true) ∧ Kp w w' := by
  obtain ⟨ns, hns⟩ : ∃ n, S.size = n := ⟨_, rfl⟩
  obtain ⟨nl, hnl⟩ : ∃ m, L.size = m := ⟨_, rfl⟩
  by_cases hbig : 300 < ns
  · have d1 : decide ((ns : Int) > 300) = true := decide_eq_true (by omega)
    have d1' : decide ((300 : Int) < (ns : Int)) = true := decide_eq_true (by omega)
    go_enter Try.func3, Try.ntmps3
    go_wp2_with fail
    refine Calls.mono (known_any w) ?_
    rintro e w1 ⟨rfl, k1⟩
    go_wp2_with fail
    go_ret
    exact ⟨rfl, k1⟩
  have d1 : decide ((ns : Int) > 300) = false := decide_eq_false (by omega)
  have d1' : decide ((300 : Int) < (ns : Int)) = false := decide_eq_false (by omega)
  by_cases hbig2 : 300 < nl
  · have d2 : decide ((nl : Int) > 300) = true := decide_eq_true (by omega)
    have d2' : decide ((300 : Int) < (nl : Int)) = true := decide_eq_true (by omega)
    go_enter Try.func3, Try.ntmps3
    go_wp2_with fail
    refine Calls.mono (known_any w) ?_
    rintro e w1 ⟨rfl, k1⟩
    go_wp2_with fail
    go_ret
    exact ⟨rfl, k1⟩
  have d2 : decide ((nl : Int) > 300) = false := decide_eq_false (by omega)
  have d2' : decide ((300 : Int) < (nl : Int)) = false := decide_eq_false (by omega)
  have HX : Hid (S.size = ns ∧ L.size = nl) := ⟨hns, hnl⟩
  go_enter Try.func3, Try.ntmps3
  go_wp2_with fail
  refine Calls.mono (known_any w) ?_
  rintro e w1 ⟨rfl, k1⟩
  have HK : Hid (Kp w w1) := k1
  clear k1
  go_wp2_with fail
  go_loopw [7, 8] (fun v7 v8 wr => ∃ i : Nat, i ≤ ns ∧ v8 = .int .i64 i ∧ v7 = .bool (opn false (S.data.toList.take i)) ∧ wr = w1) (fun _ v8 _ => ns - (intOf v8).toNat)
  case atStart => exact ⟨0, Nat.zero_le _, rfl, rfl, rfl⟩
  case round =>
    obtain ⟨i, hi, rfl, rfl, rfl⟩ := hrel
    by_cases hlt : i < ns
    · have dl : decide ((i : Int) < (ns : Int)) = true := decide_eq_true (by omega)
      have hil : i < S.size := by rw [hns]; exact hlt
      obtain ⟨c, hc⟩ : ∃ c, S[i]'hil = c := ⟨_, rfl⟩
      have HT : Hid (opn false (S.data.toList.take (i + 1)) = (c == 92 && !opn false (S.data.toList.take i))) := by
        show _ = _
        rw [List.take_add_one, show S.data.toList[i]? = some c by rw [← hc, List.getElem?_eq_getElem (by simpa using hil)]; rfl]
        exact opn_snoc _ _ _
      by_cases h9 : c = 92
      · have hc' : (S[i]'hil).toNat = 92 := by rw [hc, h9]; rfl
        have hcc : (c == 92) = true := by simpa using h9
        rw [hcc] at HT
        cases hq : opn false (S.data.toList.take i) with
        | false =>
          rw [hq] at HT
          go_wp2_with fail
          go_roundw
          case rel => exact ⟨i + 1, by omega, by go_num, by rw [HT.out]; rfl, trivial⟩
          case measure => simp only [intOf]; omega
        | true =>
          rw [hq] at HT
          go_wp2_with fail
          go_roundw
          case rel => exact ⟨i + 1, by omega, by go_num, by rw [HT.out]; rfl, trivial⟩
          case measure => simp only [intOf]; omega
      · have h9' : c.toNat ≠ 92 := fun h => h9 (UInt8.toNat_inj.1 h)
        have e9 : ((c.toNat : Int) == 92) = false := by simp; omega
        have hcc : (c == 92) = false := by simpa using h9
        rw [hcc] at HT
        go_wp2_with fail
        go_roundw
        case rel => exact ⟨i + 1, by omega, by go_num, by rw [HT.out]; rfl, trivial⟩
        case measure => simp only [intOf]; omega
    · obtain rfl : i = ns := by omega
      have dl : decide ((i : Int) < (i : Int)) = false := by simp
      rw [List.take_of_length_le (by rw [← hns]; simp)]
      cases hq : opn false S.data.toList with
      | true =>
        go_wp2_with fail
        go_ret
        exact ⟨rfl, HK.out⟩
      | false =>
        obtain ⟨M, hM⟩ : ∃ M, n % 10 = M := ⟨_, rfl⟩
        have hM2 : (n : Int) % 10 = (M : Int) := by omega
        have hM10 : M < 10 := by omega
        obtain ⟨d, hd⟩ : ∃ d : UInt8, d.toNat = 48 + M := ⟨UInt8.ofNat (48 + M), by rw [UInt8.toNat_ofNat']; omega⟩
        obtain ⟨A, hA⟩ : ∃ A, parseF S.data.toList = A := ⟨_, rfl⟩
        obtain ⟨B, hB⟩ : ∃ B, parseF L.data.toList = B := ⟨_, rfl⟩
        have hC := parse_parts S.data.toList L.data.toList d hq (by omega)
        rw [hA, hB, show d.toNat - 48 = M by omega] at hC
        obtain ⟨Z, hZ⟩ : ∃ Z : ByteArray, (⟨(S.data.toList ++ 92 :: d :: L.data.toList).toArray⟩ : ByteArray) = Z := ⟨_, rfl⟩
        obtain ⟨Y, hY⟩ : ∃ Y : ByteArray, (⟨(S.data.toList ++ [92]).toArray⟩ : ByteArray) = Y := ⟨_, rfl⟩
        obtain ⟨X, hXX⟩ : ∃ X : ByteArray, (⟨(S.data.toList ++ [92] ++ [d]).toArray⟩ : ByteArray) = X := ⟨_, rfl⟩
        have hs1 : S.data.toList.length ≤ 300 := by have := HX.out.1; simp; omega
        have hs2 : L.data.toList.length ≤ 300 := by have := HX.out.2; simp; omega
        have ct1 : ∀ W, (Op.stringOp .add S ⟨#[92]⟩).run Try.prog W = .ok (.string Y) W := fun W => by
          have := catS (x := S.data.toList) (y := [92]) rfl (by simp; omega) W
          rw [ba_list, hY] at this
          exact this
        have ct2 : ∀ W, (Op.stringOp .add Y ⟨#[d]⟩).run Try.prog W = .ok (.string X) W := fun W => by
          have := catS (x := S.data.toList ++ [92]) (y := [d]) rfl (by simp; omega) W
          rw [hY, hXX] at this
          exact this
        have ct3 : ∀ W, (Op.stringOp .add X L).run Try.prog W = .ok (.string Z) W := fun W => by
          have := catS (x := S.data.toList ++ [92] ++ [d]) (y := L.data.toList) (z := S.data.toList ++ 92 :: d :: L.data.toList) (by simp) (by simp; omega) W
          rw [ba_list, hZ, hXX] at this
          exact this
        have HPs : Hid (∀ w, Calls Try.prog 9 #[.string S] w fun e w' => ∃ a cap, e = .returned (.slice a A.length cap) ∧ Tms (.slice a A.length cap) A w' ∧ Kp w w' ∧ A.length ≤ cap ∧ cap ≤ maxLen) := fun w => parse_tms S (by have := HX.out.1; omega) A hA w
        have HPl : Hid (∀ w, Calls Try.prog 9 #[.string L] w fun e w' => ∃ a cap, e = .returned (.slice a B.length cap) ∧ Tms (.slice a B.length cap) B w' ∧ Kp w w' ∧ B.length ≤ cap ∧ cap ≤ maxLen) := fun w => parse_tms L (by have := HX.out.2; omega) B hB w
        obtain ⟨Cl, hCl⟩ : ∃ Cl : List Tm, A ++ [⟨2, [], M, 0⟩] ++ B = Cl := ⟨_, rfl⟩
        rw [hCl] at hC
        have HPz : Hid (∀ w, Calls Try.prog 9 #[.string Z] w fun e w' => ∃ a cap, e = .returned (.slice a Cl.length cap) ∧ Tms (.slice a Cl.length cap) Cl w' ∧ Kp w w' ∧ Cl.length ≤ cap ∧ cap ≤ maxLen) := fun w => parse_tms Z (by rw [← hZ]; show (S.data.toList ++ 92 :: d :: L.data.toList).toArray.size ≤ _; simp only [List.size_toArray, List.length_append, List.length_cons]; omega) _ (by rw [← hZ]; exact hC) w
        have hAl : A.length ≤ 300 := by have := parseF_len S.data.toList; rw [hA] at this; omega
        have hBl : B.length ≤ 300 := by have := parseF_len L.data.toList; rw [hB] at this; omega
        have hcl : Cl.length = A.length + 1 + B.length := by rw [← hCl]; simp; omega
        rw [hcl] at HPz
        obtain ⟨NA, hNA⟩ : ∃ NA, A.length = NA := ⟨_, rfl⟩
        obtain ⟨NB, hNB⟩ : ∃ NB, B.length = NB := ⟨_, rfl⟩
        have HN : Hid (A.length = NA ∧ B.length = NB ∧ A ++ [⟨2, [], M, 0⟩] ++ B = Cl) := ⟨hNA, hNB, hCl⟩
        rw [hNA] at HPs HPz hAl
        rw [hNB] at HPl HPz hBl
        clear hA hB hC hCl hZ hY hXX hs1 hs2 hcl hNA hNB hq hM hi hlt
        have kc := fun W => one_str W d (48 + (M : Int)) (by omega)
        clear hd
        go_wp2_with fail
        refine Calls.mono (HPs.out _) ?_
        rintro e w2 ⟨a1, cap1, rfl, hT1, k1, p1, p2⟩
        have H1 : Hid (Tms (.slice a1 NA cap1) A w2 ∧ Kp w w2) := ⟨hT1, kp_trans HK.out k1⟩
        clear hT1 k1 HK HPs
        go_wp2_with fail
        refine Calls.mono (HPl.out _) ?_
        rintro e w3 ⟨a2, cap2, rfl, hT2, k2, p3, p4⟩
        have H2 : Hid (Tms (.slice a1 NA cap1) A w3 ∧ Tms (.slice a2 NB cap2) B w3 ∧ Kp w w3) := ⟨H1.out.1.kp k2, hT2, kp_trans H1.out.2 k2⟩
        clear hT2 k2 H1 HPl
        go_wp2_with fail
        refine Calls.mono (HPz.out _) ?_
        rintro e w4 ⟨a3, cap3, rfl, hT3, k3, p5, p6⟩
        have H3 : Hid (Tms (.slice a1 NA cap1) A w4 ∧ Tms (.slice a2 NB cap2) B w4 ∧ Tms (.slice a3 (NA + 1 + NB) cap3) Cl w4 ∧ Kp w w4) := by
          have k := kp_trans (kp_alloc _ _) k3
          exact ⟨H2.out.1.kp k, H2.out.2.1.kp k, hT3, kp_trans H2.out.2.2 k⟩
        clear hT3 k3 H2 HPz ct1 ct2 ct3 kc
        unfold maxLen at p2 p4 p6
        go_wp2_with fail
        go_loopw [12] (fun v12 wr => ∃ i : Nat, i ≤ NA + 1 + NB ∧ v12 = .int .i64 i ∧ Hid (Kp w4 wr)) (fun v12 _ => NA + 1 + NB - (intOf v12).toNat)
        case atStart => exact ⟨0, Nat.zero_le _, rfl, Below.refl _ _⟩
        case round =>
          obtain ⟨k, hi, rfl, HW⟩ := hrel
          by_cases hlt : k < NA + 1 + NB
          · have dl : decide ((k : Int) < (NA : Int) + 1 + (NB : Int)) = true := decide_eq_true (by omega)
            obtain ⟨hA, hB, hC⟩ := HN.out
            have hCi : k < Cl.length := by rw [← hC]; simp; omega
            obtain ⟨t, ht⟩ : ∃ t, Cl[k]'hCi = t := ⟨_, rfl⟩
            have hti : Cl[k]? = some t := by rw [List.getElem?_eq_getElem hCi, ht]
            obtain ⟨g, rfl, c0, c1, c2, c3⟩ := (H3.out.2.2.1.kp HW.out).at hti
            clear ht
            by_cases h1 : k < NA
            · have e1 : decide ((k : Int) < (NA : Int)) = true := decide_eq_true (by omega)
              have e2 : decide ((k : Int) > (NA : Int)) = false := decide_eq_false (by omega)
              have e2' : decide ((NA : Int) < (k : Int)) = false := decide_eq_false (by omega)
              rw [← hC, List.getElem?_append_left (by simp; omega), List.getElem?_append_left (by omega)] at hti
              obtain ⟨g', rfl, y0, y1, y2, y3⟩ := (H3.out.1.kp HW.out).at hti
              clear hti hA hB hC
              obtain ⟨kd, tx, nn, cc⟩ := t
              obtain ⟨X, hX⟩ : ∃ X : ByteArray, (⟨tx.toArray⟩ : ByteArray) = X := ⟨_, rfl⟩
              simp only [hX] at c0 c1 c2 c3 y0 y1 y2 y3
              clear hX
              have z0 := kp_cell (kp_alloc wr (.cells #[.int .u8 2, .string ⟨#[]⟩, .int .i64 M, .int .u8 0] 27)) y0
              have z1 := kp_cell (kp_alloc wr (.cells #[.int .u8 2, .string ⟨#[]⟩, .int .i64 M, .int .u8 0] 27)) y1
              have z2 := kp_cell (kp_alloc wr (.cells #[.int .u8 2, .string ⟨#[]⟩, .int .i64 M, .int .u8 0] 27)) y2
              have z3 := kp_cell (kp_alloc wr (.cells #[.int .u8 2, .string ⟨#[]⟩, .int .i64 M, .int .u8 0] 27)) y3
              have x0 := kp_cell (kp_alloc wr (.cells #[.int .u8 kd, .string X, .int .i64 nn, .int .u8 cc] 27)) c0
              have x1 := kp_cell (kp_alloc wr (.cells #[.int .u8 kd, .string X, .int .i64 nn, .int .u8 cc] 27)) c1
              have x2 := kp_cell (kp_alloc wr (.cells #[.int .u8 kd, .string X, .int .i64 nn, .int .u8 cc] 27)) c2
              have x3 := kp_cell (kp_alloc wr (.cells #[.int .u8 kd, .string X, .int .i64 nn, .int .u8 cc] 27)) c3
              clear c0 c1 c2 c3 y0 y1 y2 y3
              go_upto_region 23 with fail
              go_quiet (fail)
              go_wp2_with fail
              go_roundw
              case rel => exact ⟨k + 1, by omega, by go_num, kp_trans HW.out (kp_trans (kp_alloc _ _) (by first | exact Below.refl _ _ | exact kp_drew _ | exact kp_drewN _ _))⟩
              case measure => simp only [intOf]; omega
            · have e1 : decide ((k : Int) < (NA : Int)) = false := decide_eq_false (by omega)
              by_cases h2 : k = NA
              · subst h2
                have e2 : decide ((k : Int) > (k : Int)) = false := by simp
                rw [← hC, List.getElem?_append_left (by simp; omega), List.getElem?_append_right (by omega), hA, Nat.sub_self] at hti
                simp only [List.getElem?_cons_zero, Option.some.injEq] at hti
                subst hti
                clear hA hB hC e1 h1
                have x0 := kp_cell (kp_alloc wr (.cells #[.int .u8 2, .string ⟨#[]⟩, .int .i64 M, .int .u8 0] 27)) c0
                have x1 := kp_cell (kp_alloc wr (.cells #[.int .u8 2, .string ⟨#[]⟩, .int .i64 M, .int .u8 0] 27)) c1
                have x2 := kp_cell (kp_alloc wr (.cells #[.int .u8 2, .string ⟨#[]⟩, .int .i64 M, .int .u8 0] 27)) c2
                have x3 := kp_cell (kp_alloc wr (.cells #[.int .u8 2, .string ⟨#[]⟩, .int .i64 M, .int .u8 0] 27)) c3
                clear c0 c1 c2 c3
                go_upto_region 23 with fail
                go_quiet (fail)
                go_wp2_with fail
                go_roundw
                case rel => exact ⟨k + 1, by omega, by go_num, kp_trans HW.out (kp_trans (kp_alloc _ _) (by first | exact Below.refl _ _ | exact kp_drew _ | exact kp_drewN _ _))⟩
                case measure => simp only [intOf]; omega
              · have e2 : decide ((k : Int) > (NA : Int)) = true := decide_eq_true (by omega)
                have e2' : decide ((NA : Int) < (k : Int)) = true := decide_eq_true (by omega)
                obtain ⟨j, hkj⟩ : ∃ j, k = NA + 1 + j := ⟨k - NA - 1, by omega⟩
                have ej : (k : Int) - (NA : Int) - 1 = (j : Int) := by omega
                have hj1 : 0 ≤ (j : Int) ∧ (j : Int) < (NB : Int) := by omega
                rw [← hC, List.getElem?_append_right (by simp; omega), show k - (A ++ [(⟨2, [], M, 0⟩ : Tm)]).length = j by simp; omega] at hti
                obtain ⟨g', rfl, y0, y1, y2, y3⟩ := (H3.out.2.1.kp HW.out).at hti
                clear hti hA hB hC
                obtain ⟨kd, tx, nn, cc⟩ := t
                obtain ⟨X, hX⟩ : ∃ X : ByteArray, (⟨tx.toArray⟩ : ByteArray) = X := ⟨_, rfl⟩
                simp only [hX] at c0 c1 c2 c3 y0 y1 y2 y3
                clear hX
                have z0 := kp_cell (kp_alloc wr (.cells #[.int .u8 2, .string ⟨#[]⟩, .int .i64 M, .int .u8 0] 27)) y0
                have z1 := kp_cell (kp_alloc wr (.cells #[.int .u8 2, .string ⟨#[]⟩, .int .i64 M, .int .u8 0] 27)) y1
                have z2 := kp_cell (kp_alloc wr (.cells #[.int .u8 2, .string ⟨#[]⟩, .int .i64 M, .int .u8 0] 27)) y2
                have z3 := kp_cell (kp_alloc wr (.cells #[.int .u8 2, .string ⟨#[]⟩, .int .i64 M, .int .u8 0] 27)) y3
                have x0 := kp_cell (kp_alloc wr (.cells #[.int .u8 kd, .string X, .int .i64 nn, .int .u8 cc] 27)) c0
                have x1 := kp_cell (kp_alloc wr (.cells #[.int .u8 kd, .string X, .int .i64 nn, .int .u8 cc] 27)) c1
                have x2 := kp_cell (kp_alloc wr (.cells #[.int .u8 kd, .string X, .int .i64 nn, .int .u8 cc] 27)) c2
                have x3 := kp_cell (kp_alloc wr (.cells #[.int .u8 kd, .string X, .int .i64 nn, .int .u8 cc] 27)) c3
                clear c0 c1 c2 c3 y0 y1 y2 y3
                clear hkj
                go_upto_region 23 with fail
                go_quiet (fail)
                go_wp2_with fail
                go_roundw
                case rel => exact ⟨k + 1, by omega, by go_num, kp_trans HW.out (kp_trans (kp_alloc _ _) (by first | exact Below.refl _ _ | exact kp_drew _ | exact kp_drewN _ _))⟩
                case measure => simp only [intOf]; omega
          · obtain rfl : k = NA + 1 + NB := by omega
            have dl : decide (((NA + 1 + NB : Nat) : Int) < (NA : Int) + 1 + (NB : Int)) = false := decide_eq_false (by omega)
            go_wp2_with fail
            go_ret
            exact ⟨rfl, kp_trans H3.out.2.2.2 HW.out⟩
end Go.Proofs.Ytbeaoonddlfcgaa
