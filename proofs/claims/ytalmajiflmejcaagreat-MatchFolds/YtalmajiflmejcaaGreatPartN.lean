/- Texts that the proof of the law stands on: Hw3, Hw4. -/
import Derived.Test.YtalmajiflmejcaaGreatPartM
import Derived.Laws.Concat
/- MatchPlain: the walk. -/
namespace Go.Proofs.YtalmajiflmejcaaGreat
open Go.ChangeShapes Go.WideShapes Go.ChangeAt Go.RowKit
set_option linter.unusedVariables false
set_option linter.unusedSimpArgs false
theorem catW {x y z : List UInt8} (h : x ++ y = z) (hz : z.length ≤ 8000000) (W : World) : (Op.stringOp .add ⟨x.toArray⟩ ⟨y.toArray⟩).run Tryz.prog W = .ok (.string ⟨z.toArray⟩) W := by
  subst h
  rw [List.length_append] at hz
  exact run_string_add_lists W x y (by omega) (by omega)
theorem subW {S : ByteArray} {i : Nat} (h : i < S.size) (c : UInt8) (hc : S[i]'h = c) (W : World) : (Instr.slice 9 (.string S) (some (.int .i64 (i : Int))) (some (.int .i64 ((i : Int) + 1))) none).run Tryz.prog W = .ok (.string ⟨#[c]⟩) W := by
  rw [run_slice_string (P := Tryz.prog) W 9 _ .i64 .i64 (i : Int) ((i : Int) + 1) Tryz.underlying9 (by omega) (by omega) (by omega)]
  have e : ((i : Int) + 1).toNat = i + 1 := by omega
  rw [Int.toNat_natCast, e]
  congr 2
  apply ByteArray.ext
  apply Array.ext
  · simp [ByteArray.size_data]; omega
  · intro j h1 h2
    simp at h2
    subst h2
    simp [← hc]
    rfl
theorem escL_snoc (l : List UInt8) (c : UInt8) : escL (l ++ [c]) = escL l ++ esc1 c := by simp [escL]
set_option maxHeartbeats 4000000 in
set_option maxRecDepth 100000 in
theorem word_any (S : ByteArray) (hS : S.size ≤ 1000) (w : World) : Calls Tryz.prog 22 #[.string S] w fun e w' => e = .returned (.string (wrdP S.data.toList)) ∧ w' = w := by
  obtain ⟨n, hn⟩ : ∃ n, S.size = n := ⟨_, rfl⟩
  rw [hn] at hS
  go_enter Tryz.func22, Tryz.ntmps22
  go_wp2_with fail
  go_loopw [3, 4] (fun v3 v4 wr => ∃ i : Nat, i ≤ n ∧ v4 = .int .i64 i ∧ v3 = .string ⟨([92, 86] ++ escL (S.data.toList.take i)).toArray⟩ ∧ wr = w) (fun _ v4 _ => n - (intOf v4).toNat)
  case atStart => exact ⟨0, Nat.zero_le _, rfl, rfl, rfl⟩
  case round =>
    obtain ⟨i, hi, rfl, rfl, rfl⟩ := hrel
    by_cases hlt : i < n
    · have dl : decide ((i : Int) < (n : Int)) = true := decide_eq_true (by omega)
      have hil : i < S.size := by rw [hn]; exact hlt
      obtain ⟨c, hc⟩ : ∃ c, S[i]'hil = c := ⟨_, rfl⟩
      have HQ : Hid ([92, 86] ++ escL (S.data.toList.take (i + 1)) = [92, 86] ++ escL (S.data.toList.take i) ++ esc1 c) := by
        show _ = _
        rw [List.take_add_one, show S.data.toList[i]? = some c by rw [← hc, List.getElem?_eq_getElem (by simpa using hil)]; rfl, Option.toList_some, escL_snoc, List.append_assoc]
      have hxl0 := (esc_le (S.data.toList.take i)).2
      obtain ⟨x, hx⟩ : ∃ x, [92, 86] ++ escL (S.data.toList.take i) = x := ⟨_, rfl⟩
      have hxl : x.length ≤ 3000 := by
        rw [← hx, List.length_append]
        have : (S.data.toList.take i).length ≤ i := by simp; omega
        show 2 + _ ≤ _
        omega
      rw [hx] at HQ ⊢
      clear hxl0 hx
      have sl := subW hil c hc
      obtain ⟨C, hC⟩ : ∃ C, c.toNat = C := ⟨_, rfl⟩
      have hcc : (S[i]'hil).toNat = C := by rw [hc]; exact hC
      have hC256 : C < 256 := by rw [← hC]; exact c.toNat_lt
      by_cases q : C = 92
      · have q1 : ((C : Int) == 92) = true := by simp; omega
        have hc92 : c = 92 := UInt8.toNat_inj.1 (by rw [hC, q]; rfl)
        have ct0 : ∀ W, (Op.stringOp .add ⟨x.toArray⟩ ⟨#[92]⟩).run Tryz.prog W = .ok (.string ⟨(x ++ [92]).toArray⟩) W := fun W => catW rfl (by simp; omega) W
        obtain ⟨y, hy⟩ : ∃ y, x ++ [92] = y := ⟨_, rfl⟩
        rw [hy] at ct0
        have ct1 : ∀ W, (Op.stringOp .add ⟨y.toArray⟩ ⟨#[c]⟩).run Tryz.prog W = .ok (.string ⟨(y ++ [c]).toArray⟩) W := fun W => catW rfl (by rw [← hy]; simp; omega) W
        obtain ⟨y2, hy2⟩ : ∃ y2, y ++ [c] = y2 := ⟨_, rfl⟩
        rw [hy2] at ct1
        have HQ2 : Hid ([92, 86] ++ escL (S.data.toList.take (i + 1)) = y2) := by
          show _ = _
          rw [HQ.out, ← hy2, ← hy, hc92]
          simp [esc1]
        clear hy hy2 HQ hc hc92 q hC
        go_wp2_with fail
        go_roundw
        case rel => exact ⟨i + 1, by omega, by go_num, by rw [HQ2.out], trivial⟩
        case measure => simp only [intOf]; omega
      · have q1 : ((C : Int) == 92) = false := by simp; omega
        have hc92 : c ≠ 92 := fun e => q (by rw [← hC, e]; rfl)
        have ct1 : ∀ W, (Op.stringOp .add ⟨x.toArray⟩ ⟨#[c]⟩).run Tryz.prog W = .ok (.string ⟨(x ++ [c]).toArray⟩) W := fun W => catW rfl (by simp; omega) W
        obtain ⟨y2, hy2⟩ : ∃ y2, x ++ [c] = y2 := ⟨_, rfl⟩
        rw [hy2] at ct1
        have HQ2 : Hid ([92, 86] ++ escL (S.data.toList.take (i + 1)) = y2) := by
          show _ = _
          rw [HQ.out, ← hy2]
          simp [esc1, hc92]
        clear hy2 HQ hc hc92 hC
        go_wp2_with fail
        go_roundw
        case rel => exact ⟨i + 1, by omega, by go_num, by rw [HQ2.out], trivial⟩
        case measure => simp only [intOf]; omega
    · obtain rfl : i = n := by omega
      have dl : decide ((i : Int) < (i : Int)) = false := by simp
      have HE : Hid ((⟨([92, 86] ++ escL (S.data.toList.take i)).toArray⟩ : ByteArray) = wrdP S.data.toList) := by
        show _ = _
        rw [List.take_of_length_le (by rw [← hn]; simp)]; rfl
      rw [HE.out]
      go_wp2_with fail
      go_ret
      exact ⟨rfl, rfl⟩
/-- A text as a pattern, compiled. -/
theorem compiledW {l : List UInt8} (hl : l.length ≤ 100) (f : Bool) (w : World) : Calls Tryz.prog 21 #[.string (wrdP l), .bool f] w fun e w' => Kp w w' ∧ ∃ ca cc, e = .returned (.agg #[.slice ca (l.length + 1) cc, .int .i64 0, .bool f]) ∧ Cd w' (.slice ca (l.length + 1) cc) (wordC l) := by
  refine Calls.mono (compiled_any (wrdP l) f w) ?_
  rw [word_cpd l hl f]
  rintro e w' ⟨q1, cv, rfl, q2⟩
  obtain ⟨ca, cc, rfl, u1, u2⟩ := owns_form q2
  refine ⟨q1, ca, cc, ?_, ?_⟩
  · rw [show (wordC l, 0, f).1.length = l.length + 1 from wc_len]; rfl
  · have := row_cd q2; rw [show (wordC l, 0, f).1.length = l.length + 1 from wc_len] at this; exact this
theorem ok_word (l : List UInt8) : ∀ d ∈ wordC l, d.set.ok := by
  intro d hd
  unfold wordC at hd
  rw [List.mem_append, List.mem_map, List.mem_singleton] at hd
  rcases hd with ⟨c, _, rfl⟩ | rfl
  · exact ok_zero
  · exact ok_zero
/-- The text stands at a place just when the bytes from there on are the text's. -/
theorem wOk_plain {s S : ByteArray} {k : Nat} (hks : k ≤ s.size) : wOk s false S.data.toList k = true ↔ k + S.size ≤ s.size ∧ s.extract k (k + S.size) = S := by
  have hlen : S.data.toList.length = S.size := by simp
  have hex : (s.extract k (k + S.size)).data.toList = (s.data.toList.drop k).take S.size := by
    rw [ByteArray.data_extract, Array.toList_extract, List.extract, Nat.add_sub_cancel_left]
  have key : ∀ i, i < S.size → k + S.size ≤ s.size → (wB s false S.data.toList k i = true ↔ (s.data.toList[k + i]?) = S.data.toList[i]?) := by
    intro i hi hk
    have h1 : k + i < s.data.toList.length := by simp; omega
    have h2 : i < S.data.toList.length := by rw [hlen]; exact hi
    unfold wB smeB byt
    rw [decide_eq_true (by omega), Bool.true_and, List.getElem?_eq_getElem h1, List.getElem?_eq_getElem h2, List.getD_eq_getElem?_getD, List.getElem?_eq_getElem h2]
    have e : s[k + i]? = some (s.data.toList[k + i]) := by rw [getElem?_pos s (k + i) (by omega)]; rfl
    rw [e]
    simp
    exact ⟨fun h => UInt8.toNat_inj.1 (by omega), fun h => by rw [h]⟩
  rw [wOk_iff, hlen]
  constructor
  · intro h
    have hk : k + S.size ≤ s.size := by
      by_cases z : S.size = 0
      · omega
      · have := h (S.size - 1) (by omega)
        unfold wB at this
        rw [Bool.and_eq_true, decide_eq_true_eq] at this
        omega
    refine ⟨hk, ?_⟩
    apply ByteArray.ext
    apply Array.toList_inj.1
    rw [hex]
    apply List.ext_getElem?
    intro i
    rw [List.getElem?_take]
    by_cases hi : i < S.size
    · rw [if_pos hi, List.getElem?_drop]
      exact (key i hi hk).1 (h i hi)
    · rw [if_neg hi, List.getElem?_eq_none (by rw [hlen]; omega)]
  · rintro ⟨hk, he⟩ i hi
    refine (key i hi hk).2 ?_
    rw [he] at hex
    rw [hex, List.getElem?_take, if_pos hi, List.getElem?_drop]
theorem str_ne {x y : ByteArray} (h : x ≠ y) : (x.toList == y.toList) = false := by
  have : x.toList ≠ y.toList := fun e => by
    rw [ByteArray.toList_eq, ByteArray.toList_eq] at e
    exact h (ByteArray.ext (Array.toList_inj.1 e))
  simpa using this
theorem firstW (p : Nat → Bool) (n : Nat) : ∃ K, K ≤ n ∧ (∀ j, j < K → p j = false) ∧ (K < n → p K = true) := by
  induction n with
  | zero => exact ⟨0, Nat.le_refl _, fun j h => absurd h (by omega), fun h => absurd h (by omega)⟩
  | succ n ih =>
    obtain ⟨K, h1, h2, h3⟩ := ih
    by_cases e : K < n
    · exact ⟨K, by omega, h2, fun _ => h3 e⟩
    · obtain rfl : K = n := by omega
      cases hp : p K with
      | true => exact ⟨K, by omega, h2, fun _ => hp⟩
      | false => exact ⟨K + 1, Nat.le_refl _, fun j hj => by
          by_cases q : j = K
          · rw [q]; exact hp
          · exact h2 j (by omega), fun h => absurd h (by omega)⟩
set_option maxHeartbeats 16000000 in
set_option maxRecDepth 100000 in
theorem plain_law (s line : ByteArray) (w : World) : Calls Tryz.prog 6 #[.string s, .string line] w fun e w' => e = .returned (.bool true) ∧ Kp w w' := by
  by_cases h1 : 40 < s.size
  · have dsa : decide ((s.size : Int) > 40) = true := decide_eq_true (by omega)
    have dsb : decide ((40 : Int) < (s.size : Int)) = true := decide_eq_true (by omega)
    have dsc : decide (40 < s.size) = true := decide_eq_true (by omega)
    clear h1
    go_enter Tryz.func6, Tryz.ntmps6
    go_wp2_with (go_at_call 19; refine Calls.mono (known_m _) ?_; rintro e w1 ⟨rfl, q⟩; have H1 : Hid (Kp w w1) := q; clear q)
    go_ret
    exact ⟨rfl, H1.out⟩
  have dsa : decide ((s.size : Int) > 40) = false := decide_eq_false (by omega)
  have dsb : decide ((40 : Int) < (s.size : Int)) = false := decide_eq_false (by omega)
  have dsc : decide (40 < s.size) = false := decide_eq_false (by omega)
  by_cases h2 : 60 < line.size
  · have dlinea : decide ((line.size : Int) > 60) = true := decide_eq_true (by omega)
    have dlineb : decide ((60 : Int) < (line.size : Int)) = true := decide_eq_true (by omega)
    have dlinec : decide (60 < line.size) = true := decide_eq_true (by omega)
    clear h1 h2
    go_enter Tryz.func6, Tryz.ntmps6
    go_wp2_with (go_at_call 19; refine Calls.mono (known_m _) ?_; rintro e w1 ⟨rfl, q⟩; have H1 : Hid (Kp w w1) := q; clear q)
    go_ret
    exact ⟨rfl, H1.out⟩
  have dlinea : decide ((line.size : Int) > 60) = false := decide_eq_false (by omega)
  have dlineb : decide ((60 : Int) < (line.size : Int)) = false := decide_eq_false (by omega)
  have dlinec : decide (60 < line.size) = false := decide_eq_false (by omega)
  have hs40 : s.size ≤ 40 := Nat.le_of_not_lt h1
  have hl60 : line.size ≤ 60 := Nat.le_of_not_lt h2
  have hll : s.data.toList.length ≤ 100 := by simp; omega
  have hmul : (line.size + 2) * (s.data.toList.length + 1) ≤ 5000 := by
    have e : s.data.toList.length = s.size := by simp
    rw [e]
    exact Nat.le_trans (Nat.mul_le_mul (show line.size + 2 ≤ 62 by omega) (show s.size + 1 ≤ 41 by omega)) (by decide)
  have hfir := fir_word (s := line) (fo := false) (l := s.data.toList) hll (st := 5000) (Nat.le_refl _) hmul
  rw [show ((5000 : Nat) : Int) = 5000 from rfl] at hfir
  obtain ⟨⟨lA, nA, sA, eA⟩, hYA⟩ : ∃ ZZ, firE (wordC s.data.toList) 0 line false 0 line.size 5000 = ZZ := ⟨_, rfl⟩
  rw [hYA] at hfir
  simp only [Prod.mk.injEq] at hfir
  have hlen : s.data.toList.length = s.size := by simp
  obtain ⟨K, k1, k2, k3⟩ := firstW (fun j => wOk line false s.data.toList j) (line.size + 1)
  have hq : eA = 0 ∧ (K ≤ line.size → sA = true ∧ lA.getD 0 0 = (K : Int) ∧ lA.getD 1 0 = ((K + s.size : Nat) : Int)) ∧ (K = line.size + 1 → sA = false) := by
    by_cases e : K ≤ line.size
    · obtain ⟨⟨q1, q2⟩, q3⟩ := hfir.1 K e (k3 (by omega)) k2
      refine ⟨q2, fun _ => ⟨q1, ?_⟩, fun z => absurd z (by omega)⟩
      rw [q3, hlen]
      exact mt_word K s.size s.size
    · obtain ⟨⟨q1, q2⟩, _⟩ := hfir.2 fun j hj => k2 j (by omega)
      exact ⟨q2, fun z => absurd z e, fun _ => q1⟩
  obtain ⟨rfl, q2, q3⟩ := hq
  obtain ⟨LA, hLA⟩ : ∃ L, slv lA = L := ⟨_, rfl⟩
  have hlA : lA.length = 22 := by have := firE_len (wordC s.data.toList) 0 line false 0 line.size 5000; rw [hYA] at this; exact this
  have HLA : Hid (LA.length = 22 ∧ (∀ v ∈ LA, v.oneCell' = true)) := by rw [← hLA]; exact ⟨by rw [slv_len]; exact hlA, slv_one _⟩
  have HYA : Hid (ansV (firE (wordC s.data.toList) 0 line false 0 line.size 5000) = .tuple #[.agg LA.toArray, .int .i64 nA, .bool sA, .int .u16 0]) := by show _ = _; rw [hYA, ← hLA]; rfl
  have HKQ : Hid ((K ≤ line.size → sA = true ∧ LA[0]? = some (.int .i64 K) ∧ LA[1]? = some (.int .i64 ((K + s.size : Nat) : Int))) ∧ (K = line.size + 1 → sA = false) ∧ (∀ j, j < K → j ≤ line.size → ¬ (j + s.size ≤ line.size ∧ line.extract j (j + s.size) = s)) ∧ (K ≤ line.size → K + s.size ≤ line.size ∧ line.extract K (K + s.size) = s) ∧ K ≤ line.size + 1) := by
    rw [← hLA]
    refine ⟨fun h => ⟨(q2 h).1, by rw [slv_get (by omega) 0, (q2 h).2.1], by rw [slv_get (by omega) 0, (q2 h).2.2]⟩, q3, fun j hj hjl hh => ?_, fun h => (wOk_plain h).1 (k3 (by omega)), k1⟩
    have := (wOk_plain hjl).2 hh
    rw [k2 j hj] at this
    cases this
  have HW : Hid (∀ z, Calls Tryz.prog 22 #[.string s] z fun e w' => e = .returned (.string (wrdP s.data.toList)) ∧ w' = z) := fun z => word_any s (by omega) z
  obtain ⟨WP, hWP⟩ : ∃ P, wrdP s.data.toList = P := ⟨_, rfl⟩
  have HCP : Hid (∀ z, Calls Tryz.prog 21 #[.string WP, .bool false] z fun e w' => Kp z w' ∧ ∃ ca cc, e = .returned (.agg #[.slice ca (s.size + 1) cc, .int .i64 0, .bool false]) ∧ Cd w' (.slice ca (s.size + 1) cc) (wordC s.data.toList)) := fun z => by
    have := compiledW hll false z
    rw [hWP, hlen] at this
    exact this
  rw [hWP] at HW
  obtain ⟨N, hN⟩ : ∃ N, s.size + 1 = N := ⟨_, rfl⟩
  rw [hN] at HCP
  have HFR : Hid (∀ (z : World) ca cc, Cd z (.slice ca N cc) (wordC s.data.toList) → Calls Tryz.prog 20 #[.agg #[.slice ca N cc, .int .i64 0, .bool false], .string line, .int .i64 0, .int .i64 5000] z fun e w' => e = .returned (.tuple #[.agg LA.toArray, .int .i64 nA, .bool sA, .int .u16 0]) ∧ Kp z w') := fun z ca cc hC => by
    have := from_m hC (ok_word s.data.toList) false 0 line (by omega) 0 5000
    rw [HYA.out] at this
    exact this
  clear hYA hLA hlA q2 q3 k1 k2 k3 hfir hlen hmul hll hWP hN HYA h1 h2
  go_enter Tryz.func6, Tryz.ntmps6
  go_upto_region 3 with (go_at_call 19; refine Calls.mono (known_m _) ?_; rintro e w1 ⟨rfl, q⟩; have H1 : Hid (Kp w w1) := q; clear q)
  go_upto_region 4 with (first | (go_at_call 22; refine Calls.mono (HW.out _) ?_; rintro e w2 ⟨rfl, q⟩; rw [q]; clear q) | (go_at_call 21; refine Calls.mono (HCP.out _) ?_; rintro e w3 ⟨q1, ca, cc, rfl, q2⟩; have H3 : Hid (Kp w w3 ∧ Cd w3 (.slice ca N cc) (wordC s.data.toList)) := ⟨kp_trans H1.out q1, q2⟩; clear q1 q2))
  obtain ⟨bp, hbp⟩ : ∃ b, w3.heap.size = b := ⟨_, rfl⟩
  obtain ⟨W4, hW4⟩ : ∃ W, w3.alloc (.cells #[.slice ca N cc, .int .i64 0, .bool false] 32) = W := ⟨_, rfl⟩
  have H4 : Hid (Kp w W4 ∧ Lc 32 bp [.slice ca N cc, .int .i64 0, .bool false] W4 ∧ Cd W4 (.slice ca N cc) (wordC s.data.toList)) := by
    rw [← hW4, ← hbp]
    exact ⟨kp_trans H3.out.1 (kp_alloc _ _), Lc.new w3 [.slice ca N cc, .int .i64 0, .bool false] _, H3.out.2.kp (kp_alloc _ _)⟩
  try rw [hW4]
  try rw [hbp]
  clear hW4 hbp
  have p0 : W4.cell? ⟨bp, 0, none⟩ = some (.slice ca N cc) := H4.out.2.1.at rfl
  have p1 : W4.cell? ⟨bp, 1, none⟩ = some (.int .i64 0) := H4.out.2.1.at rfl
  have p2 : W4.cell? ⟨bp, 2, none⟩ = some (.bool false) := H4.out.2.1.at rfl
  go_upto_region 5 with (first | (go_at_call 20; refine Calls.mono (HFR.out _ _ _ H4.out.2.2) ?_; rintro e tA ⟨rfl, q⟩; have HTA : Hid (Kp w tA) := kp_trans H4.out.1 q; clear q; obtain ⟨mA, hmA⟩ : ∃ b, tA.heap.size = b := ⟨_, rfl⟩; obtain ⟨zA, hzA⟩ : ∃ W, tA.alloc (.cells #[.int .i64 0, .int .i64 0, .int .i64 0, .int .i64 0, .int .i64 0, .int .i64 0, .int .i64 0, .int .i64 0, .int .i64 0, .int .i64 0, .int .i64 0, .int .i64 0, .int .i64 0, .int .i64 0, .int .i64 0, .int .i64 0, .int .i64 0, .int .i64 0, .int .i64 0, .int .i64 0, .int .i64 0, .int .i64 0] 25) = W := ⟨_, rfl⟩; have HZA : Hid (Kp w zA ∧ Lc 25 mA z22 zA ∧ tA.heap.size = mA) := (by rw [← hzA, ← hmA]; exact ⟨kp_trans HTA.out (kp_alloc _ _), Lc.new tA z22 _, rfl⟩)) | (refine wpList_store_box HZA.out.2.1 0 LA rfl 25 (.tmp 6) (.tmp 32) rfl rfl rfl (by rw [Nat.zero_add, HLA.out.1]; exact Nat.le_refl _) (by rw [HLA.out.1]; exact sizeMatch) HLA.out.2 (sets_full _ _ (by rw [HLA.out.1]; rfl)) ?_; intro W5 q1 q2 q3; have H5 : Hid (Kp w W5 ∧ Lc 25 mA LA W5) := ⟨HZA.out.1.trans (q2.below HZA.out.1.size fun j hj q => by unfold On at q; have h1 := HZA.out.2.2; have h2 := HTA.out.size; omega), q1⟩; clear q1 q2 q3))
  clear hmA hzA p0 p1 p2
  obtain ⟨n, hn⟩ : ∃ n, s.size = n := ⟨_, rfl⟩
  obtain ⟨m, hm⟩ : ∃ m, line.size = m := ⟨_, rfl⟩
  rw [hn, hm] at HKQ
  have hs40' : n ≤ 40 := by omega
  have hl60' : m ≤ 60 := by omega
  have HZ : Hid (s.size = n ∧ line.size = m) := ⟨hn, hm⟩
  clear HFR HCP HW hs40 hl60
  go_wp2_with fail
  go_loopw [10, 11] (fun v10 v11 wr => wr = W5 ∧ ∃ i : Nat, v11 = .int .i64 i ∧ i ≤ m + 1 ∧ ((v10 = .int .i64 (-1) ∧ i ≤ K) ∨ (v10 = .int .i64 K ∧ i = K + 1 ∧ K ≤ m))) (fun _ v11 _ => m + 2 - (intOf v11).toNat)
  case atStart => exact ⟨rfl, 0, rfl, by omega, .inl ⟨rfl, Nat.zero_le _⟩⟩
  case round =>
    obtain ⟨hwr, i, rfl, him, hcase⟩ := hrel
    subst hwr
    obtain ⟨T, hT⟩ : ∃ T, i + n = T := ⟨_, rfl⟩
    have hTi : (i : Int) + (n : Int) = (T : Int) := by omega
    have hT2 : i ≤ T := by omega
    rcases hcase with ⟨rfl, hiK⟩ | ⟨rfl, hiK, hKm⟩
    · by_cases hTm : T ≤ m
      · have d1 : decide ((T : Int) ≤ (m : Int)) = true := decide_eq_true (by omega)
        have d1' : decide (T ≤ m) = true := decide_eq_true hTm
        by_cases hK : i = K
        · have HX : Hid (line.extract i T = s) := by
            have := (HKQ.out.2.2.2.1 (by omega)).2
            rw [← hK, hT] at this
            exact this
          have hx := HX.out
          have HKm : Hid (K ≤ m ∧ i = K) := ⟨by omega, hK⟩
          clear hK hT
          go_wp2_with fail
          go_roundw
          case rel => exact ⟨trivial, i + 1, by go_num, by omega, .inr ⟨by rw [HKm.out.2], by rw [HKm.out.2], HKm.out.1⟩⟩
          case measure => simp only [intOf]; omega
        · have hx : line.extract i T ≠ s := fun e => by
            refine HKQ.out.2.2.1 i (by omega) (by omega) ⟨by omega, ?_⟩
            rw [hT]; exact e
          obtain ⟨X, hX⟩ : ∃ X, line.extract i T = X := ⟨_, rfl⟩
          have hxe : (X.toList == s.toList) = false := str_ne (by rw [← hX]; exact hx)
          clear hx hT
          go_wp2_with fail
          go_roundw
          case rel => exact ⟨trivial, i + 1, by go_num, by have := HKQ.out.2.2.2.2; omega, .inl ⟨rfl, by omega⟩⟩
          case measure => simp only [intOf]; omega
      · have d1 : decide ((T : Int) ≤ (m : Int)) = false := decide_eq_false (by omega)
        have d1' : decide (T ≤ m) = false := decide_eq_false hTm
        have hsF : sA = false := HKQ.out.2.1 (by
          have h5 := HKQ.out.2.2.2.2
          by_cases q : K ≤ m
          · have := (HKQ.out.2.2.2.1 q).1
            omega
          · omega)
        subst hsF
        clear hT
        go_wp2_with fail
        go_ret
        exact ⟨rfl, H5.out.1⟩
    · obtain ⟨r1, r2, r3⟩ := HKQ.out.1 hKm
      have hKn := (HKQ.out.2.2.2.1 hKm).1
      subst r1
      have g0 : wr.cell? ⟨mA, 0, none⟩ = some (.int .i64 K) := H5.out.2.at r2
      obtain ⟨KT, hKT⟩ : ∃ KT, K + n = KT := ⟨_, rfl⟩
      rw [hKT] at r3
      have g1 : wr.cell? ⟨mA, 1, none⟩ = some (.int .i64 (KT : Int)) := H5.out.2.at r3
      have hKi : (K : Int) + (n : Int) = (KT : Int) := by omega
      have y1 : decide ((K : Int) ≥ 0) = true := decide_eq_true (by omega)
      have y2 : decide (0 ≤ (K : Int)) = true := decide_eq_true (by omega)
      have y3 : decide ((K : Int) < 0) = false := decide_eq_false (by omega)
      have hK60 : K ≤ 60 := by omega
      clear r2 r3 hKT hT hiK
      by_cases hTm : T ≤ m
      · have d1 : decide ((T : Int) ≤ (m : Int)) = true := decide_eq_true (by omega)
        have d1' : decide (T ≤ m) = true := decide_eq_true hTm
        go_wp2_with fail
        go_ret
        exact ⟨rfl, H5.out.1⟩
      · have d1 : decide ((T : Int) ≤ (m : Int)) = false := decide_eq_false (by omega)
        have d1' : decide (T ≤ m) = false := decide_eq_false hTm
        go_wp2_with fail
        go_ret
        exact ⟨rfl, H5.out.1⟩
end Go.Proofs.YtalmajiflmejcaaGreat
/- MatchFolds: the walk. -/
namespace Go.Proofs.YtalmajiflmejcaaGreat
open Go.ChangeShapes Go.WideShapes Go.ChangeAt Go.RowKit
set_option linter.unusedVariables false
set_option linter.unusedSimpArgs false
/-- A small letter. -/
def sm8 (c : UInt8) : UInt8 := if 65 ≤ c.toNat ∧ c.toNat ≤ 90 then c + 32 else c
theorem sm8_toNat (c : UInt8) : ((sm8 c).toNat : Int) = smI (c.toNat : Int) := by
  unfold smI sm8
  by_cases h : 65 ≤ c.toNat ∧ c.toNat ≤ 90
  · rw [if_pos h, grtB_iff.2 (by omega), UInt8.toNat_add]
    show (((c.toNat + 32) % 256 : Nat) : Int) = (c.toNat : Int) + 32
    omega
  · rw [if_neg h]
    cases q : grtB (c.toNat : Int)
    · rfl
    · have := grtB_iff.1 q; omega
def smlS (S : ByteArray) : ByteArray := ⟨(S.data.toList.map sm8).toArray⟩
theorem sml_size (S : ByteArray) : (smlS S).size = S.size := by show (S.data.toList.map sm8).toArray.size = _; simp
theorem sml_list (S : ByteArray) : (smlS S).data.toList = S.data.toList.map sm8 := by simp [smlS]
theorem byt_get (S : ByteArray) (k : Nat) : byt S k = ((S.data.toList[k]?).getD 0).toNat := by
  unfold byt
  by_cases h : k < S.size
  · have h1 : k < S.data.toList.length := by simpa using h
    rw [getElem?_pos S k h, List.getElem?_eq_getElem h1]
    rfl
  · have h1 : ¬ k < S.data.toList.length := by simpa using h
    rw [getElem?_neg S k h, List.getElem?_eq_none (by omega)]
theorem sml_byt {S : ByteArray} {k : Nat} (h : k < S.size) : ((byt (smlS S) k : Nat) : Int) = smI (byt S k) := by
  have h1 : k < S.data.toList.length := by simpa using h
  rw [byt_get, byt_get, sml_list, List.getElem?_map, List.getElem?_eq_getElem h1]
  exact sm8_toNat _
theorem sme_true (a b : Int) : smeB true a b = (smI a == smI b) := by
  unfold smeB
  by_cases h : a = b
  · rw [h]; simp
  · have : (a == b) = false := by simpa using h
    rw [this, Bool.false_or, Bool.true_and]
theorem sml_ok (line s : ByteArray) (k : Nat) : wOk (smlS line) false (smlS s).data.toList k = wOk line true s.data.toList k := by
  have e : ∀ i, i < s.data.toList.length → wB (smlS line) false (smlS s).data.toList k i = wB line true s.data.toList k i := by
    intro i hi
    unfold wB
    rw [sml_size]
    by_cases hk : k + i < line.size
    · rw [decide_eq_true hk, Bool.true_and, Bool.true_and, sme_true, ← sml_byt hk]
      have e1 : ((((smlS s).data.toList.getD i 0).toNat : Nat) : Int) = smI ((s.data.toList.getD i 0).toNat : Int) := by
        rw [sml_list, List.getD_eq_getElem?_getD, List.getD_eq_getElem?_getD, List.getElem?_map, List.getElem?_eq_getElem hi]
        exact sm8_toNat _
      rw [← e1]
      unfold smeB
      rw [Bool.false_and, Bool.or_false]
    · rw [decide_eq_false hk, Bool.false_and, Bool.false_and]
  rw [Bool.eq_iff_iff, wOk_iff, wOk_iff]
  have hl : (smlS s).data.toList.length = s.data.toList.length := by rw [sml_list, List.length_map]
  rw [hl]
  exact ⟨fun h i hi => by rw [← e i hi]; exact h i hi, fun h i hi => by rw [e i hi]; exact h i hi⟩
/-- Both are the same. -/
theorem sml_fir {line s : ByteArray} (hs : s.size ≤ 20) (hl : line.size ≤ 40) :
    (firE (wordC s.data.toList) 0 line true 0 line.size 5000).2.2 = (firE (wordC (smlS s).data.toList) 0 (smlS line) false 0 (smlS line).size 5000).2.2 ∧ (firE (wordC s.data.toList) 0 line true 0 line.size 5000).1 = (firE (wordC (smlS s).data.toList) 0 (smlS line) false 0 (smlS line).size 5000).1 ∧ (firE (wordC s.data.toList) 0 line true 0 line.size 5000).2.2.2 = 0 := by
  have hlen : s.data.toList.length = s.size := by simp
  have hlen2 : (smlS s).data.toList.length = s.size := by rw [sml_list, List.length_map, hlen]
  have hm : (line.size + 2) * (s.size + 1) ≤ 5000 := Nat.le_trans (Nat.mul_le_mul (show line.size + 2 ≤ 42 by omega) (show s.size + 1 ≤ 21 by omega)) (by decide)
  have hA := fir_word (s := line) (fo := true) (l := s.data.toList) (by rw [hlen]; omega) (st := 5000) (Nat.le_refl _) (by rw [hlen]; exact hm)
  have hB := fir_word (s := smlS line) (fo := false) (l := (smlS s).data.toList) (by rw [hlen2]; omega) (st := 5000) (Nat.le_refl _) (by rw [hlen2, sml_size]; exact hm)
  rw [show ((5000 : Nat) : Int) = 5000 from rfl, hlen] at hA
  rw [show ((5000 : Nat) : Int) = 5000 from rfl, hlen2] at hB
  obtain ⟨K, k1, k2, k3⟩ := firstW (fun j => wOk line true s.data.toList j) (line.size + 1)
  by_cases e : K ≤ line.size
  · obtain ⟨a1, a2⟩ := hA.1 K e (k3 (by omega)) k2
    obtain ⟨b1, b2⟩ := hB.1 K (by rw [sml_size]; exact e) (by rw [sml_ok]; exact k3 (by omega)) fun j hj => by rw [sml_ok]; exact k2 j hj
    rw [a1, b1, a2, b2]
    exact ⟨rfl, rfl, rfl⟩
  · obtain ⟨a1, a2⟩ := hA.2 fun j hj => k2 j (by omega)
    obtain ⟨b1, b2⟩ := hB.2 fun j hj => by rw [sml_size] at hj; rw [sml_ok]; exact k2 j (by omega)
    rw [a1, b1, a2, b2]
    exact ⟨rfl, rfl, rfl⟩
theorem byteW (w : World) (n : Int) (c : UInt8) (h : n = (c.toNat : Int)) : (convert 73 9 (.slice (some ⟨w.heap.size, 0, none⟩) 1 1)).run Tryz.prog (w.alloc (.cells #[.int .u8 n] 5)) = .ok (.string ⟨#[c]⟩) (w.alloc (.cells #[.int .u8 n] 5)) :=
  run_convert_bytes_back (P := Tryz.prog) _ 73 9 5 ⟨w.heap.size, 0, none⟩ 1 [c] Tryz.underlying73 Tryz.underlying5 Tryz.underlying9 (fun j hj => by
    have hj0 : j = 0 := by simpa using hj
    subst hj0
    rw [Addr.add_lit, cell_at (alloc_new w _)]
    show some (Value.int .u8 n) = some (Value.int .u8 (c.toNat : Int))
    rw [h])
set_option maxHeartbeats 4000000 in
set_option maxRecDepth 100000 in
theorem small_any (S : ByteArray) (hS : S.size ≤ 1000) (w : World) : Calls Tryz.prog 23 #[.string S] w fun e w' => e = .returned (.string (smlS S)) ∧ Kp w w' := by
  obtain ⟨n, hn⟩ : ∃ n, S.size = n := ⟨_, rfl⟩
  rw [hn] at hS
  go_enter Tryz.func23, Tryz.ntmps23
  go_wp2_with fail
  go_loopw [3, 4] (fun v3 v4 wr => ∃ i : Nat, i ≤ n ∧ v4 = .int .i64 i ∧ v3 = .string ⟨((S.data.toList.take i).map sm8).toArray⟩ ∧ Hid (Kp w wr)) (fun _ v4 _ => n - (intOf v4).toNat)
  case atStart => exact ⟨0, Nat.zero_le _, rfl, rfl, Below.refl _ _⟩
  case round =>
    obtain ⟨i, hi, rfl, rfl, HK⟩ := hrel
    by_cases hlt : i < n
    · have dl : decide ((i : Int) < (n : Int)) = true := decide_eq_true (by omega)
      have hil : i < S.size := by rw [hn]; exact hlt
      obtain ⟨c, hc⟩ : ∃ c, S[i]'hil = c := ⟨_, rfl⟩
      have HQ : Hid ((S.data.toList.take (i + 1)).map sm8 = (S.data.toList.take i).map sm8 ++ [sm8 c]) := by
        show _ = _
        rw [List.take_add_one, show S.data.toList[i]? = some c by rw [← hc, List.getElem?_eq_getElem (by simpa using hil)]; rfl, Option.toList_some, List.map_append]
        rfl
      have hxl0 : ((S.data.toList.take i).map sm8).length ≤ i := by rw [List.length_map]; simp; omega
      obtain ⟨x, hx⟩ : ∃ x, (S.data.toList.take i).map sm8 = x := ⟨_, rfl⟩
      rw [hx] at HQ hxl0 ⊢
      clear hx
      obtain ⟨C, hC⟩ : ∃ C, c.toNat = C := ⟨_, rfl⟩
      have hcc : (S[i]'hil).toNat = C := by rw [hc]; exact hC
      have HR : Hid (∀ z, Calls Tryz.prog 52 #[.int .u8 C] z fun e w' => e = .returned (.int .u8 ((sm8 c).toNat : Int)) ∧ w' = z) := by
        intro z
        have := rSmall_any (c.toNat : Int) z
        rw [← sm8_toNat, hC] at this
        exact this
      obtain ⟨R, hR⟩ : ∃ R : Nat, (sm8 c).toNat = R := ⟨_, rfl⟩
      have hcv : ∀ z : World, (convert 73 9 (.slice (some ⟨z.heap.size, 0, none⟩) 1 1)).run Tryz.prog (z.alloc (.cells #[.int .u8 (R : Int)] 5)) = .ok (.string ⟨#[sm8 c]⟩) (z.alloc (.cells #[.int .u8 (R : Int)] 5)) := fun z => byteW z R (sm8 c) (by rw [hR])
      have ct1 : ∀ W, (Op.stringOp .add ⟨x.toArray⟩ ⟨#[sm8 c]⟩).run Tryz.prog W = .ok (.string ⟨(x ++ [sm8 c]).toArray⟩) W := fun W => catW rfl (by simp; omega) W
      obtain ⟨y2, hy2⟩ : ∃ y2, x ++ [sm8 c] = y2 := ⟨_, rfl⟩
      rw [hy2] at ct1 HQ
      obtain ⟨SC, hSC⟩ : ∃ SC, sm8 c = SC := ⟨_, rfl⟩
      rw [hSC] at ct1 hcv
      rw [hR] at HR
      clear hy2 hc hC hR hSC
      go_wp2_with (go_at_call 52; refine Calls.mono (HR.out _) ?_; rintro e x1 ⟨rfl, q⟩; rw [q]; clear q)
      go_roundw
      case rel => exact ⟨i + 1, by omega, by go_num, by rw [HQ.out], kp_trans HK.out (kp_alloc _ _)⟩
      case measure => simp only [intOf]; omega
    · obtain rfl : i = n := by omega
      have dl : decide ((i : Int) < (i : Int)) = false := by simp
      have HE : Hid ((⟨((S.data.toList.take i).map sm8).toArray⟩ : ByteArray) = smlS S) := by
        show _ = _
        rw [List.take_of_length_le (by rw [← hn]; simp)]; rfl
      rw [HE.out]
      go_wp2_with fail
      go_ret
      exact ⟨rfl, HK.out⟩
theorem wpList_load_boxG {T : TypeId} {b : Nat} {l : List Value} {w : World} {ops : Array Oper} {rest : List Oper} {op : Oper} {a : Act} {Q : Exit → Act → World → Prop} (h : Lc T b l w) (hw : Region.wanted op (yielded ops a.tmps) = true) (ty : TypeId) (x : Operand) (ho : op.op = .load ty x) (hx : a.eval x = .pointer (some ⟨b, 0, none⟩))
    (d : TypeDesc) (hu : Tryz.prog.underlying ty = some d) (hd : d.isRow = true) (hi : (Tryz.prog.info? ty).map (·.size) = some l.length)
    (k : wpList Tryz.prog ops Q rest (a.put op.dst (.agg l.toArray)) w) : wpList Tryz.prog ops Q (op :: rest) a w :=
  wpList_step fun K hK => by
    rw [if_pos hw]
    exact wp_load_mid ty x ho b 0 hx l d (h.range 0 fun j v hj => by rw [Nat.zero_add]; exact hj) hu hd hi (hK _ _ k)
set_option maxHeartbeats 16000000 in
set_option maxRecDepth 100000 in
theorem folds_law (s line : ByteArray) (w : World) : Calls Tryz.prog 3 #[.string s, .string line] w fun e w' => e = .returned (.bool true) ∧ Kp w w' := by
  by_cases h1 : 20 < s.size
  · have dsa : decide ((s.size : Int) > 20) = true := decide_eq_true (by omega)
    have dsb : decide ((20 : Int) < (s.size : Int)) = true := decide_eq_true (by omega)
    have dsc : decide (20 < s.size) = true := decide_eq_true (by omega)
    clear h1
    go_enter Tryz.func3, Tryz.ntmps3
    go_wp2_with (go_at_call 19; refine Calls.mono (known_m _) ?_; rintro e w1 ⟨rfl, q⟩; have H1 : Hid (Kp w w1) := q; clear q)
    go_ret
    exact ⟨rfl, H1.out⟩
  have dsa : decide ((s.size : Int) > 20) = false := decide_eq_false (by omega)
  have dsb : decide ((20 : Int) < (s.size : Int)) = false := decide_eq_false (by omega)
  have dsc : decide (20 < s.size) = false := decide_eq_false (by omega)
  by_cases h2 : 40 < line.size
  · have dlinea : decide ((line.size : Int) > 40) = true := decide_eq_true (by omega)
    have dlineb : decide ((40 : Int) < (line.size : Int)) = true := decide_eq_true (by omega)
    have dlinec : decide (40 < line.size) = true := decide_eq_true (by omega)
    clear h1 h2
    go_enter Tryz.func3, Tryz.ntmps3
    go_wp2_with (go_at_call 19; refine Calls.mono (known_m _) ?_; rintro e w1 ⟨rfl, q⟩; have H1 : Hid (Kp w w1) := q; clear q)
    go_ret
    exact ⟨rfl, H1.out⟩
  have dlinea : decide ((line.size : Int) > 40) = false := decide_eq_false (by omega)
  have dlineb : decide ((40 : Int) < (line.size : Int)) = false := decide_eq_false (by omega)
  have dlinec : decide (40 < line.size) = false := decide_eq_false (by omega)
  have hs20 : s.size ≤ 20 := Nat.le_of_not_lt h1
  have hl40 : line.size ≤ 40 := Nat.le_of_not_lt h2
  have hlen : s.data.toList.length = s.size := by simp
  have hlen2 : (smlS s).data.toList.length = s.size := by rw [sml_list, List.length_map, hlen]
  obtain ⟨f1, f2, f3⟩ := sml_fir hs20 hl40
  obtain ⟨⟨lA, nA, sA, eA⟩, hYA⟩ : ∃ ZZ, firE (wordC s.data.toList) 0 line true 0 line.size 5000 = ZZ := ⟨_, rfl⟩
  obtain ⟨⟨lB, nB, sB, eB⟩, hYB⟩ : ∃ ZZ, firE (wordC (smlS s).data.toList) 0 (smlS line) false 0 (smlS line).size 5000 = ZZ := ⟨_, rfl⟩
  have hin := fir_in (C := wordC s.data.toList) (s := line) (fo := true) (0 : Int) (a := 0) (b := line.size) (st := 5000) (.inr rfl)
  rw [hYA] at hin f1 f2 f3
  rw [hYB] at f1 f2
  simp only [Prod.mk.injEq] at f1 f2 f3
  obtain ⟨rfl, rfl⟩ := f1
  subst f2 f3
  obtain ⟨LA, hLA⟩ : ∃ L, slv lA = L := ⟨_, rfl⟩
  have hlA : lA.length = 22 := by have := firE_len (wordC s.data.toList) 0 line true 0 line.size 5000; rw [hYA] at this; exact this
  have HLA : Hid (LA.length = 22 ∧ (∀ v ∈ LA, v.oneCell' = true)) := by rw [← hLA]; exact ⟨by rw [slv_len]; exact hlA, slv_one _⟩
  have HRA : Hid (∀ z, (Op.equalIn 10000 25 (.agg LA.toArray) (.agg LA.toArray)).run Tryz.prog z = .ok true z) := by
    intro z
    rw [← hLA]
    exact eq_match lA hlA (rg_of (s := line) (by omega) hin) z
  obtain ⟨dM, hM1, hM2⟩ := rowMatch
  have HTM : Hid (Tryz.prog.underlying 25 = some dM ∧ dM.isRow = true) := ⟨hM1, hM2⟩
  have HW : Hid (∀ z, Calls Tryz.prog 22 #[.string s] z fun e w' => e = .returned (.string (wrdP s.data.toList)) ∧ w' = z) := fun z => word_any s (by omega) z
  have HW2 : Hid (∀ z, Calls Tryz.prog 22 #[.string (smlS s)] z fun e w' => e = .returned (.string (wrdP (smlS s).data.toList)) ∧ w' = z) := fun z => word_any (smlS s) (by rw [sml_size]; omega) z
  have HS1 : Hid (∀ z, Calls Tryz.prog 23 #[.string s] z fun e w' => e = .returned (.string (smlS s)) ∧ Kp z w') := fun z => small_any s (by omega) z
  have HS2 : Hid (∀ z, Calls Tryz.prog 23 #[.string line] z fun e w' => e = .returned (.string (smlS line)) ∧ Kp z w') := fun z => small_any line (by omega) z
  obtain ⟨N, hN⟩ : ∃ N, s.size + 1 = N := ⟨_, rfl⟩
  have HCP : Hid (∀ z, Calls Tryz.prog 21 #[.string (wrdP s.data.toList), .bool true] z fun e w' => Kp z w' ∧ ∃ ca cc, e = .returned (.agg #[.slice ca N cc, .int .i64 0, .bool true]) ∧ Cd w' (.slice ca N cc) (wordC s.data.toList)) := fun z => by
    have := compiledW (l := s.data.toList) (by rw [hlen]; omega) true z
    rw [hlen, hN] at this
    exact this
  have HCP2 : Hid (∀ z, Calls Tryz.prog 21 #[.string (wrdP (smlS s).data.toList), .bool false] z fun e w' => Kp z w' ∧ ∃ ca cc, e = .returned (.agg #[.slice ca N cc, .int .i64 0, .bool false]) ∧ Cd w' (.slice ca N cc) (wordC (smlS s).data.toList)) := fun z => by
    have := compiledW (l := (smlS s).data.toList) (by rw [hlen2]; omega) false z
    rw [hlen2, hN] at this
    exact this
  have HFR : Hid (∀ (z : World) ca cc, Cd z (.slice ca N cc) (wordC s.data.toList) → Calls Tryz.prog 20 #[.agg #[.slice ca N cc, .int .i64 0, .bool true], .string line, .int .i64 0, .int .i64 5000] z fun e w' => e = .returned (.tuple #[.agg LA.toArray, .int .i64 nA, .bool sA, .int .u16 0]) ∧ Kp z w') := fun z ca cc hC => by
    have := from_m hC (ok_word s.data.toList) true 0 line (by omega) 0 5000
    rw [hYA] at this
    rw [← hLA]
    exact this
  have HFR2 : Hid (∀ (z : World) ca cc, Cd z (.slice ca N cc) (wordC (smlS s).data.toList) → Calls Tryz.prog 20 #[.agg #[.slice ca N cc, .int .i64 0, .bool false], .string (smlS line), .int .i64 0, .int .i64 5000] z fun e w' => e = .returned (.tuple #[.agg LA.toArray, .int .i64 nB, .bool sA, .int .u16 0]) ∧ Kp z w') := fun z ca cc hC => by
    have := from_m hC (ok_word (smlS s).data.toList) false 0 (smlS line) (by rw [sml_size]; omega) 0 5000
    rw [hYB] at this
    rw [← hLA]
    exact this
  obtain ⟨P1, hP1⟩ : ∃ P, wrdP s.data.toList = P := ⟨_, rfl⟩
  obtain ⟨P2, hP2⟩ : ∃ P, wrdP (smlS s).data.toList = P := ⟨_, rfl⟩
  obtain ⟨C1, hC1⟩ : ∃ P, wordC s.data.toList = P := ⟨_, rfl⟩
  obtain ⟨C2, hC2⟩ : ∃ P, wordC (smlS s).data.toList = P := ⟨_, rfl⟩
  rw [hP1] at HW HCP
  rw [hP2] at HW2 HCP2
  rw [hC1] at HCP HFR
  rw [hC2] at HCP2 HFR2
  obtain ⟨S1, hS1⟩ : ∃ P, smlS s = P := ⟨_, rfl⟩
  obtain ⟨S2, hS2⟩ : ∃ P, smlS line = P := ⟨_, rfl⟩
  rw [hS1] at HW2 HS1
  rw [hS2] at HS2 HFR2
  clear hYA hYB hLA hlA hin hM1 hM2 hlen hlen2 hN hP1 hP2 hC1 hC2 hS1 hS2 h1 h2 hs20 hl40
  go_enter Tryz.func3, Tryz.ntmps3
  go_upto_region 3 with (go_at_call 19; refine Calls.mono (known_m _) ?_; rintro e w1 ⟨rfl, q⟩; have H1 : Hid (Kp w w1) := q; clear q)
  go_upto_region 4 with (first | (go_at_call 22; refine Calls.mono (HW.out _) ?_; rintro e w2 ⟨rfl, q⟩; rw [q]; clear q) | (go_at_call 21; refine Calls.mono (HCP.out _) ?_; rintro e w3 ⟨q1, ca, cc, rfl, q2⟩; have H3 : Hid (Kp w w3 ∧ Cd w3 (.slice ca N cc) C1) := ⟨kp_trans H1.out q1, q2⟩; clear q1 q2) | (go_at_call 20; refine Calls.mono (HFR.out _ _ _ H3.out.2) ?_; rintro e tA ⟨rfl, q⟩; have HTA : Hid (Kp w tA) := kp_trans H3.out.1 q; clear q; obtain ⟨mA, hmA⟩ : ∃ b, tA.heap.size = b := ⟨_, rfl⟩; obtain ⟨zA, hzA⟩ : ∃ W, tA.alloc (.cells #[.int .i64 0, .int .i64 0, .int .i64 0, .int .i64 0, .int .i64 0, .int .i64 0, .int .i64 0, .int .i64 0, .int .i64 0, .int .i64 0, .int .i64 0, .int .i64 0, .int .i64 0, .int .i64 0, .int .i64 0, .int .i64 0, .int .i64 0, .int .i64 0, .int .i64 0, .int .i64 0, .int .i64 0, .int .i64 0] 25) = W := ⟨_, rfl⟩; have HZA : Hid (Kp w zA ∧ Lc 25 mA z22 zA ∧ tA.heap.size = mA) := (by rw [← hzA, ← hmA]; exact ⟨kp_trans HTA.out (kp_alloc _ _), Lc.new tA z22 _, rfl⟩)) | (refine wpList_store_box HZA.out.2.1 0 LA rfl 25 (.tmp 5) (.tmp 32) rfl rfl rfl (by rw [Nat.zero_add, HLA.out.1]; exact Nat.le_refl _) (by rw [HLA.out.1]; exact sizeMatch) HLA.out.2 (sets_full _ _ (by rw [HLA.out.1]; rfl)) ?_; intro W5 q1 q2 q3; have H5 : Hid (Kp w W5 ∧ Lc 25 mA LA W5) := ⟨HZA.out.1.trans (q2.below HZA.out.1.size fun j hj q => by unfold On at q; have h1 := HZA.out.2.2; have h2 := HTA.out.size; omega), q1⟩; clear q1 q2 q3))
  clear hmA hzA
  go_wp2_with fail
  refine Calls.mono (HS1.out _) ?_
  rintro e y1 ⟨rfl, q⟩
  have HY1 : Hid (Kp W5 y1) := q
  clear q
  go_wp2_with fail
  refine Calls.mono (HW2.out _) ?_
  rintro e y2 ⟨rfl, q⟩
  rw [q]
  clear q
  go_wp2_with fail
  refine Calls.mono (HCP2.out _) ?_
  rintro e y3 ⟨q1, cb, cd, rfl, q2⟩
  have HY3 : Hid (Kp W5 y3 ∧ Cd y3 (.slice cb N cd) C2) := ⟨kp_trans HY1.out q1, q2⟩
  clear q1 q2
  go_wp2_with fail
  refine Calls.mono (HS2.out _) ?_
  rintro e y4 ⟨rfl, q⟩
  have HY4 : Hid (Kp W5 y4 ∧ Cd y4 (.slice cb N cd) C2) := ⟨kp_trans HY3.out.1 q, HY3.out.2.kp q⟩
  clear q
  go_upto_region 5 with (first | (go_at_call 20; refine Calls.mono (HFR2.out _ _ _ HY4.out.2) ?_; rintro e tB ⟨rfl, q⟩; have HTB : Hid (Kp W5 tB) := kp_trans HY4.out.1 q; clear q; obtain ⟨mB, hmB⟩ : ∃ b, tB.heap.size = b := ⟨_, rfl⟩; obtain ⟨zB, hzB⟩ : ∃ W, tB.alloc (.cells #[.int .i64 0, .int .i64 0, .int .i64 0, .int .i64 0, .int .i64 0, .int .i64 0, .int .i64 0, .int .i64 0, .int .i64 0, .int .i64 0, .int .i64 0, .int .i64 0, .int .i64 0, .int .i64 0, .int .i64 0, .int .i64 0, .int .i64 0, .int .i64 0, .int .i64 0, .int .i64 0, .int .i64 0, .int .i64 0] 25) = W := ⟨_, rfl⟩; have HZB : Hid (Kp W5 zB ∧ Lc 25 mB z22 zB ∧ tB.heap.size = mB) := (by rw [← hzB, ← hmB]; exact ⟨kp_trans HTB.out (kp_alloc _ _), Lc.new tB z22 _, rfl⟩)) | (refine wpList_store_box HZB.out.2.1 0 LA rfl 25 (.tmp 9) (.tmp 44) rfl rfl rfl (by rw [Nat.zero_add, HLA.out.1]; exact Nat.le_refl _) (by rw [HLA.out.1]; exact sizeMatch) HLA.out.2 (sets_full _ _ (by rw [HLA.out.1]; rfl)) ?_; intro W6 q1 q2 q3; have H6 : Hid (Kp W5 W6 ∧ Lc 25 mB LA W6) := ⟨HZB.out.1.trans (q2.below HZB.out.1.size fun j hj q => by unfold On at q; have h1 := HZB.out.2.2; have h2 := HTB.out.size; omega), q1⟩; clear q1 q2 q3))
  clear hmB hzB
  have H7 : Hid (Kp w W6 ∧ Lc 25 mA LA W6 ∧ Lc 25 mB LA W6) := ⟨kp_trans H5.out.1 H6.out.1, H5.out.2.kp H6.out.1, H6.out.2⟩
  clear HFR HFR2 HCP HCP2 HW HW2 HS1 HS2
  have hRA : ∀ z, (Op.equalIn 10000 25 (.agg LA.toArray) (.agg LA.toArray)).run Tryz.prog z = .ok true z := HRA.out
  cases sA
  all_goals
    go_wp2_with (first | (refine wpList_load_boxG H7.out.2.1 (by rfl) 25 (.tmp 5) rfl rfl dM HTM.out.1 HTM.out.2 (by rw [HLA.out.1]; exact sizeMatch) ?_) | (refine wpList_load_boxG H7.out.2.2 (by rfl) 25 (.tmp 9) rfl rfl dM HTM.out.1 HTM.out.2 (by rw [HLA.out.1]; exact sizeMatch) ?_))
    go_ret
    exact ⟨rfl, H7.out.1⟩
end Go.Proofs.YtalmajiflmejcaaGreat
