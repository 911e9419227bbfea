import Derived.Test.YtibgpkkgaekakaaPartN
namespace Go.Proofs.Ytibgpkkgaekakaa
open Go.ChangeShapes Go.WideShapes Go.ChangeAt Go.RowKit
set_option linter.unusedVariables false
set_option linter.unusedSimpArgs false
def aN (j : Nat) : ByteArray := ⟨(List.replicate j (97 : UInt8)).toArray⟩
theorem aN_size (j : Nat) : (aN j).size = j := by show (List.replicate j (97 : UInt8)).toArray.size = j; simp
theorem aN_succ (j : Nat) : aN j ++ ⟨#[97]⟩ = aN (j + 1) := by
  apply ByteArray.ext
  apply Array.ext'
  rw [app_list]
  show (List.replicate j (97 : UInt8)).toArray.toList ++ [97] = (List.replicate (j + 1) (97 : UInt8)).toArray.toList
  rw [List.toList_toArray, List.toList_toArray, List.replicate_succ']
theorem aN_all (j : Nat) : AllA (aN j) := by
  intro k hk
  rw [aN_size] at hk
  rw [byt_list]
  show (((List.replicate j (97 : UInt8)).toArray.toList[k]?).getD 0).toNat = 97
  simp [hk]
set_option maxHeartbeats 16000000 in
set_option maxRecDepth 100000 in
theorem greedyG (a : Nat) (ha : a < 256) (b : Nat) (hb : b < 256) (c : Nat) (hc : c < 256) (w : World) : Calls Try.prog 4 #[.int .u8 a, .int .u8 b, .int .u8 c, .bool false] w fun e w' => e = .returned (.bool true) ∧ Kp w w' := by
  obtain ⟨M, hM⟩ : ∃ M, a % 80 = M := ⟨_, rfl⟩
  obtain ⟨n, hn⟩ : ∃ n, b % 30 = n := ⟨_, rfl⟩
  obtain ⟨h, hh⟩ : ∃ h, c % 30 = h := ⟨_, rfl⟩
  obtain ⟨T, hT⟩ : ∃ T, n + h = T := ⟨_, rfl⟩
  have m1 : (a : Int) % 80 = (M : Int) := by omega
  have m2 : (b : Int) % 30 = (n : Int) := by omega
  have m3 : (c : Int) % 30 = (h : Int) := by omega
  have m1' : Int.tmod (a : Int) 80 = (M : Int) := by rw [Int.tmod_eq_emod_of_nonneg (by omega)]; exact m1
  have m2' : Int.tmod (b : Int) 30 = (n : Int) := by rw [Int.tmod_eq_emod_of_nonneg (by omega)]; exact m2
  have m3' : Int.tmod (c : Int) 30 = (h : Int) := by rw [Int.tmod_eq_emod_of_nonneg (by omega)]; exact m3
  have mT : (n : Int) + (h : Int) = (T : Int) := by omega
  have hM1 : M < 80 := by omega
  have hn1 : n < 30 := by omega
  have hh1 : h < 30 := by omega
  have hT1 : T < 60 := by omega
  obtain ⟨WT, hWT⟩ : ∃ W, min M T = W := ⟨_, rfl⟩
  have HON : Hid (cpdE (grP n T false) false = (grC n h false, h, false)) := by rw [← hT]; exact gr_cpd hn1 hh1
  have hF := gr_fir (n := n) (h := h) (lz := false) (aN_all M) hn1 hh1
  rw [aN_size] at hF
  obtain ⟨line, hline⟩ : ∃ l, aN M = l := ⟨_, rfl⟩
  rw [hline] at hF
  have hls : line.size = M := by rw [← hline, aN_size]
  obtain ⟨⟨lA, nA, sA, eA⟩, hYA⟩ : ∃ ZZ, firE (grC n h false) h line false 0 0 5000 = ZZ := ⟨_, rfl⟩
  rw [hYA] at hF
  simp only [Prod.mk.injEq] at hF
  obtain ⟨⟨hsA, rfl⟩, hF2⟩ := hF
  obtain ⟨LA, hLA⟩ : ∃ L, slv lA = L := ⟨_, rfl⟩
  have hlA : lA.length = 22 := by have := firE_len (grC n h false) h line false 0 0 5000; rw [hYA] at this; exact this
  have HLA : Hid (LA.length = 22 ∧ (∀ v ∈ LA, v.oneCell' = true)) := by rw [← hLA]; exact ⟨by rw [slv_len]; exact hlA, slv_one _⟩
  have HYA : Hid (ansV (firE (grC n h false) h line false 0 0 5000) = .tuple #[.agg LA.toArray, .int .i64 nA, .bool sA, .int .u16 0]) := by show _ = _; rw [hYA, ← hLA]; rfl
  have HD : Hid (sA = decide (n ≤ M) ∧ (n ≤ M → LA[0]? = some (.int .i64 0) ∧ LA[1]? = some (.int .i64 WT))) := by
    refine ⟨hsA, fun q => ?_⟩
    obtain ⟨r0, r1⟩ := hF2 q
    rw [← hLA]
    refine ⟨by rw [slv_get (by omega) 0, r0], ?_⟩
    rw [slv_get (by omega) 0, r1, ← hWT, ← hT]
    rfl
  obtain ⟨D1, hD1⟩ : ∃ D : ByteArray, ⟨(digS n).toArray⟩ = D := ⟨_, rfl⟩
  obtain ⟨D2, hD2⟩ : ∃ D : ByteArray, ⟨(digS T).toArray⟩ = D := ⟨_, rfl⟩
  have hds : ∀ q, (⟨(digS q).toArray⟩ : ByteArray).size ≤ 2 := by
    intro q
    unfold digS
    split
    · show 1 ≤ 2; omega
    · exact Nat.le_refl 2
  have hD1s : D1.size ≤ 2 := by rw [← hD1]; exact hds n
  have hD2s : D2.size ≤ 2 := by rw [← hD2]; exact hds T
  have HDG : Hid (∀ q : Nat, q < 60 → ∀ z, Calls Try.prog 14 #[.int .i64 q] z fun e w' => e = .returned (.string ⟨(digS q).toArray⟩) ∧ Kp z w') := fun q hq z => dig_m (by omega) z
  have HD1 : Hid ((⟨(digS n).toArray⟩ : ByteArray) = D1) := hD1
  have HD2 : Hid ((⟨(digS T).toArray⟩ : ByteArray) = D2) := hD2
  obtain ⟨P1, hP1⟩ : ∃ P, (⟨#[97, 92, 123]⟩ : ByteArray) ++ D1 = P := ⟨_, rfl⟩
  obtain ⟨P2, hP2⟩ : ∃ P, P1 ++ ⟨#[44]⟩ = P := ⟨_, rfl⟩
  obtain ⟨P3, hP3⟩ : ∃ P, P2 ++ D2 = P := ⟨_, rfl⟩
  have hP4 : P3 ++ ⟨#[125]⟩ = grP n T false := by
    rw [← hP3, ← hP2, ← hP1, ← hD1, ← hD2]
    unfold grP
    apply ByteArray.ext
    simp
  have z1 : P1.size ≤ 6 := by rw [← hP1, ByteArray.size_append]; show 3 + D1.size ≤ 6; omega
  have z2 : P2.size ≤ 7 := by rw [← hP2, ByteArray.size_append]; show P1.size + 1 ≤ 7; omega
  have z3 : P3.size ≤ 9 := by rw [← hP3, ByteArray.size_append]; omega
  obtain ⟨PT, hPT⟩ : ∃ P, grP n T false = P := ⟨_, rfl⟩
  rw [hPT] at hP4 HON
  have a1 : ∀ z : World, (Op.stringOp .add ⟨#[97, 92, 123]⟩ D1).run Try.prog z = .ok (.string P1) z := fun z => by rw [← hP1]; exact run_string_add_sum z _ _ (by show 3 + D1.size ≤ _; omega)
  have a2 : ∀ z : World, (Op.stringOp .add P1 ⟨#[44]⟩).run Try.prog z = .ok (.string P2) z := fun z => by rw [← hP2]; exact run_string_add_sum z _ _ (by show P1.size + 1 ≤ _; omega)
  have a3 : ∀ z : World, (Op.stringOp .add P2 D2).run Try.prog z = .ok (.string P3) z := fun z => by rw [← hP3]; exact run_string_add_sum z _ _ (by omega)
  have a4 : ∀ z : World, (Op.stringOp .add P3 ⟨#[125]⟩).run Try.prog z = .ok (.string PT) z := fun z => by rw [← hP4]; exact run_string_add_sum z _ _ (by show P3.size + 1 ≤ _; omega)
  have a5 : ∀ z : World, (Op.stringOp .add ⟨#[97, 92, 123]⟩ ⟨#[45]⟩).run Try.prog z = .ok (.string ⟨#[97, 92, 123, 45]⟩) z := fun z => run_string_add_sum z ⟨#[97, 92, 123]⟩ ⟨#[45]⟩ (by show 3 + 1 ≤ _; omega)
  have HAN : Hid (aN M = line) := hline
  have hl2 : line.size ≤ 1000000 := by omega
  clear hYA hLA hlA hF2 hsA hD1 hD2 hP1 hP2 hP3 hP4 hPT hline hls hds hT hM hn hh
  go_enter Try.func4, Try.ntmps4
  go_upto_region 8 with fail
  go_wp2_with fail
  go_loopw [13, 14] (fun v13 v14 wr => ∃ j : Nat, j ≤ M ∧ v13 = .string (aN j) ∧ v14 = .int .i64 j ∧ wr = w) (fun _ v14 _ => M - (intOf v14).toNat)
  case atStart => exact ⟨0, Nat.zero_le _, rfl, rfl, rfl⟩
  case round =>
    obtain ⟨j, hj, rfl, rfl, hwr⟩ := hrel
    subst hwr
    by_cases hjM : j < M
    · have dj : decide ((j : Int) < (M : Int)) = true := decide_eq_true (by omega)
      have dj' : decide (j < M) = true := decide_eq_true hjM
      have aj : ∀ z : World, (Op.stringOp .add (aN j) ⟨#[97]⟩).run Try.prog z = .ok (.string (aN (j + 1))) z := fun z => by rw [← aN_succ]; exact run_string_add_sum z _ _ (by rw [aN_size]; show j + 1 ≤ _; omega)
      obtain ⟨AJ1, hA1⟩ : ∃ A, aN (j + 1) = A := ⟨_, rfl⟩
      obtain ⟨AJ, hA0⟩ : ∃ A, aN j = A := ⟨_, rfl⟩
      rw [hA1, hA0] at aj
      rw [hA0]
      have HA1 : Hid (aN (j + 1) = AJ1) := hA1
      clear hA1 hA0
      go_wp2_with fail
      go_roundw
      case rel => exact ⟨j + 1, by omega, by rw [HA1.out], by go_num, by trivial⟩
      case measure => simp only [intOf]; omega
    · obtain rfl : j = M := by omega
      have dj : decide ((j : Int) < (j : Int)) = false := decide_eq_false (by omega)
      rw [HAN.out]
      go_upto_region 12 with fail
      clear dj
      go_upto_region 13 with (first | (go_at_call 14; refine Calls.mono (HDG.out _ (by omega) _) ?_; rintro e v ⟨rfl, q⟩; first | (have HV2 : Hid (Kp wr v) := kp_trans HV1.out q; clear q; rw [HD2.out]) | (have HV1 : Hid (Kp wr v) := q; clear q; rw [HD1.out])) | (go_at_call 12; refine Calls.mono (compiled_any PT false _) ?_; rw [HON.out]; rintro e v2 ⟨q1, cv, rfl, q2⟩; obtain ⟨ca, cc, rfl, u1, u2⟩ := owns_form q2; rw [gr_len] at u1 ⊢; have HV : Hid (Kp wr v2 ∧ Cd v2 (.slice ca (n + 4 * h + 1) cc) (grC n h false)) := ⟨kp_trans HV2.out q1, by have := row_cd q2; rw [gr_len] at this; exact this⟩; clear q1 q2 u1 u2) | (go_at_call 11; refine Calls.mono (at_m HV.out.2 ok_gr false h line hl2 0 5000) ?_; rintro e tA ⟨q1, q2⟩; rw [HYA.out] at q1; subst q1; have HTA : Hid (Kp wr tA) := kp_trans HV.out.1 q2; clear q2; obtain ⟨mA, hmA⟩ : ∃ b, tA.heap.size = b := ⟨_, rfl⟩; obtain ⟨zA, hzA⟩ : ∃ W, tA.alloc (.cells #[.int .i64 0, .int .i64 0, .int .i64 0, .int .i64 0, .int .i64 0, .int .i64 0, .int .i64 0, .int .i64 0, .int .i64 0, .int .i64 0, .int .i64 0, .int .i64 0, .int .i64 0, .int .i64 0, .int .i64 0, .int .i64 0, .int .i64 0, .int .i64 0, .int .i64 0, .int .i64 0, .int .i64 0, .int .i64 0] 25) = W := ⟨_, rfl⟩; have HZA : Hid (Kp wr zA ∧ Lc 25 mA z22 zA ∧ tA.heap.size = mA) := (by rw [← hzA, ← hmA]; exact ⟨kp_trans HTA.out (kp_alloc _ _), Lc.new tA z22 _, rfl⟩)) | (refine wpList_store_box HZA.out.2.1 0 LA rfl 25 (.tmp 15) (.tmp 54) rfl rfl rfl (by rw [Nat.zero_add, HLA.out.1]; exact Nat.le_refl _) (by rw [HLA.out.1]; exact sizeMatch) HLA.out.2 (sets_full _ _ (by rw [HLA.out.1]; rfl)) ?_; intro W3 q1 q2 q3; have HW3 : Hid (Kp wr W3 ∧ Lc 25 mA LA W3) := ⟨HZA.out.1.trans (q2.below HZA.out.1.size fun j hj q => by unfold On at q; have h1 := HZA.out.2.2; have h2 := HTA.out.size; omega), q1⟩; clear q1 q2 q3))
      clear hmA hzA a1 a2 a3 a4 a5 m1 m2 m3 m1' m2' m3'
      have mn : min (j : Int) (T : Int) = (WT : Int) := by omega
      by_cases hnm : n ≤ j
      · obtain ⟨r0, r1⟩ := HD.out.2 hnm
        have hsT : sA = true := by rw [HD.out.1]; exact decide_eq_true hnm
        subst hsT
        have g0 : W3.cell? ⟨mA, 0, none⟩ = some (.int .i64 0) := HW3.out.2.at r0
        have g1 : W3.cell? ⟨mA, 1, none⟩ = some (.int .i64 WT) := HW3.out.2.at r1
        have y1 : decide ((j : Int) ≥ (n : Int)) = true := decide_eq_true (by omega)
        have y2 : decide ((n : Int) ≤ (j : Int)) = true := decide_eq_true (by omega)
        have y3 : decide (n ≤ j) = true := decide_eq_true hnm
        clear r0 r1 hnm
        go_wp2_with (go_at_call 10; refine Calls.mono (known_m _) ?_; rintro e w9 ⟨rfl, q⟩; have H9 : Hid (Kp wr w9) := kp_trans HW3.out.1 q; replace g0 := kp_cell q g0; replace g1 := kp_cell q g1; clear q)
        go_ret
        exact ⟨rfl, H9.out⟩
      · have hsT : sA = false := by rw [HD.out.1]; exact decide_eq_false hnm
        subst hsT
        have y1 : decide ((j : Int) ≥ (n : Int)) = false := decide_eq_false (by omega)
        have y2 : decide ((n : Int) ≤ (j : Int)) = false := decide_eq_false (by omega)
        have y3 : decide (n ≤ j) = false := decide_eq_false hnm
        clear hnm
        go_wp2_with (go_at_call 10; refine Calls.mono (known_m _) ?_; rintro e w9 ⟨rfl, q⟩; have H9 : Hid (Kp wr w9) := kp_trans HW3.out.1 q; clear q)
        go_ret
        exact ⟨rfl, H9.out⟩
set_option maxHeartbeats 16000000 in
set_option maxRecDepth 100000 in
theorem greedyL (a : Nat) (ha : a < 256) (b : Nat) (hb : b < 256) (c : Nat) (hc : c < 256) (w : World) : Calls Try.prog 4 #[.int .u8 a, .int .u8 b, .int .u8 c, .bool true] w fun e w' => e = .returned (.bool true) ∧ Kp w w' := by
  obtain ⟨M, hM⟩ : ∃ M, a % 80 = M := ⟨_, rfl⟩
  obtain ⟨n, hn⟩ : ∃ n, b % 30 = n := ⟨_, rfl⟩
  obtain ⟨h, hh⟩ : ∃ h, c % 30 = h := ⟨_, rfl⟩
  obtain ⟨T, hT⟩ : ∃ T, n + h = T := ⟨_, rfl⟩
  have m1 : (a : Int) % 80 = (M : Int) := by omega
  have m2 : (b : Int) % 30 = (n : Int) := by omega
  have m3 : (c : Int) % 30 = (h : Int) := by omega
  have m1' : Int.tmod (a : Int) 80 = (M : Int) := by rw [Int.tmod_eq_emod_of_nonneg (by omega)]; exact m1
  have m2' : Int.tmod (b : Int) 30 = (n : Int) := by rw [Int.tmod_eq_emod_of_nonneg (by omega)]; exact m2
  have m3' : Int.tmod (c : Int) 30 = (h : Int) := by rw [Int.tmod_eq_emod_of_nonneg (by omega)]; exact m3
  have mT : (n : Int) + (h : Int) = (T : Int) := by omega
  have hM1 : M < 80 := by omega
  have hn1 : n < 30 := by omega
  have hh1 : h < 30 := by omega
  have hT1 : T < 60 := by omega
  have HON : Hid (cpdE (grP n T true) false = (grC n h true, h, false)) := by rw [← hT]; exact gr_cpd hn1 hh1
  have hF := gr_fir (n := n) (h := h) (lz := true) (aN_all M) hn1 hh1
  rw [aN_size] at hF
  obtain ⟨line, hline⟩ : ∃ l, aN M = l := ⟨_, rfl⟩
  rw [hline] at hF
  have hls : line.size = M := by rw [← hline, aN_size]
  obtain ⟨⟨lA, nA, sA, eA⟩, hYA⟩ : ∃ ZZ, firE (grC n h true) h line false 0 0 5000 = ZZ := ⟨_, rfl⟩
  rw [hYA] at hF
  simp only [Prod.mk.injEq] at hF
  obtain ⟨⟨hsA, rfl⟩, hF2⟩ := hF
  obtain ⟨LA, hLA⟩ : ∃ L, slv lA = L := ⟨_, rfl⟩
  have hlA : lA.length = 22 := by have := firE_len (grC n h true) h line false 0 0 5000; rw [hYA] at this; exact this
  have HLA : Hid (LA.length = 22 ∧ (∀ v ∈ LA, v.oneCell' = true)) := by rw [← hLA]; exact ⟨by rw [slv_len]; exact hlA, slv_one _⟩
  have HYA : Hid (ansV (firE (grC n h true) h line false 0 0 5000) = .tuple #[.agg LA.toArray, .int .i64 nA, .bool sA, .int .u16 0]) := by show _ = _; rw [hYA, ← hLA]; rfl
  have HD : Hid (sA = decide (n ≤ M) ∧ (n ≤ M → LA[0]? = some (.int .i64 0) ∧ LA[1]? = some (.int .i64 n))) := by
    refine ⟨hsA, fun q => ?_⟩
    obtain ⟨r0, r1⟩ := hF2 q
    rw [← hLA]
    refine ⟨by rw [slv_get (by omega) 0, r0], ?_⟩
    rw [slv_get (by omega) 0, r1]
    rfl
  obtain ⟨D1, hD1⟩ : ∃ D : ByteArray, ⟨(digS n).toArray⟩ = D := ⟨_, rfl⟩
  obtain ⟨D2, hD2⟩ : ∃ D : ByteArray, ⟨(digS T).toArray⟩ = D := ⟨_, rfl⟩
  have hds : ∀ q, (⟨(digS q).toArray⟩ : ByteArray).size ≤ 2 := by
    intro q
    unfold digS
    split
    · show 1 ≤ 2; omega
    · exact Nat.le_refl 2
  have hD1s : D1.size ≤ 2 := by rw [← hD1]; exact hds n
  have hD2s : D2.size ≤ 2 := by rw [← hD2]; exact hds T
  have HDG : Hid (∀ q : Nat, q < 60 → ∀ z, Calls Try.prog 14 #[.int .i64 q] z fun e w' => e = .returned (.string ⟨(digS q).toArray⟩) ∧ Kp z w') := fun q hq z => dig_m (by omega) z
  have HD1 : Hid ((⟨(digS n).toArray⟩ : ByteArray) = D1) := hD1
  have HD2 : Hid ((⟨(digS T).toArray⟩ : ByteArray) = D2) := hD2
  obtain ⟨P1, hP1⟩ : ∃ P, (⟨#[97, 92, 123, 45]⟩ : ByteArray) ++ D1 = P := ⟨_, rfl⟩
  obtain ⟨P2, hP2⟩ : ∃ P, P1 ++ ⟨#[44]⟩ = P := ⟨_, rfl⟩
  obtain ⟨P3, hP3⟩ : ∃ P, P2 ++ D2 = P := ⟨_, rfl⟩
  have hP4 : P3 ++ ⟨#[125]⟩ = grP n T true := by
    rw [← hP3, ← hP2, ← hP1, ← hD1, ← hD2]
    unfold grP
    apply ByteArray.ext
    simp
  have z1 : P1.size ≤ 6 := by rw [← hP1, ByteArray.size_append]; show 4 + D1.size ≤ 6; omega
  have z2 : P2.size ≤ 7 := by rw [← hP2, ByteArray.size_append]; show P1.size + 1 ≤ 7; omega
  have z3 : P3.size ≤ 9 := by rw [← hP3, ByteArray.size_append]; omega
  obtain ⟨PT, hPT⟩ : ∃ P, grP n T true = P := ⟨_, rfl⟩
  rw [hPT] at hP4 HON
  have a1 : ∀ z : World, (Op.stringOp .add ⟨#[97, 92, 123, 45]⟩ D1).run Try.prog z = .ok (.string P1) z := fun z => by rw [← hP1]; exact run_string_add_sum z _ _ (by show 4 + D1.size ≤ _; omega)
  have a2 : ∀ z : World, (Op.stringOp .add P1 ⟨#[44]⟩).run Try.prog z = .ok (.string P2) z := fun z => by rw [← hP2]; exact run_string_add_sum z _ _ (by show P1.size + 1 ≤ _; omega)
  have a3 : ∀ z : World, (Op.stringOp .add P2 D2).run Try.prog z = .ok (.string P3) z := fun z => by rw [← hP3]; exact run_string_add_sum z _ _ (by omega)
  have a4 : ∀ z : World, (Op.stringOp .add P3 ⟨#[125]⟩).run Try.prog z = .ok (.string PT) z := fun z => by rw [← hP4]; exact run_string_add_sum z _ _ (by show P3.size + 1 ≤ _; omega)
  have a5 : ∀ z : World, (Op.stringOp .add ⟨#[97, 92, 123]⟩ ⟨#[45]⟩).run Try.prog z = .ok (.string ⟨#[97, 92, 123, 45]⟩) z := fun z => run_string_add_sum z ⟨#[97, 92, 123]⟩ ⟨#[45]⟩ (by show 3 + 1 ≤ _; omega)
  have HAN : Hid (aN M = line) := hline
  have hl2 : line.size ≤ 1000000 := by omega
  clear hYA hLA hlA hF2 hsA hD1 hD2 hP1 hP2 hP3 hP4 hPT hline hls hds hT hM hn hh
  go_enter Try.func4, Try.ntmps4
  go_upto_region 8 with fail
  go_wp2_with fail
  go_loopw [13, 14] (fun v13 v14 wr => ∃ j : Nat, j ≤ M ∧ v13 = .string (aN j) ∧ v14 = .int .i64 j ∧ wr = w) (fun _ v14 _ => M - (intOf v14).toNat)
  case atStart => exact ⟨0, Nat.zero_le _, rfl, rfl, rfl⟩
  case round =>
    obtain ⟨j, hj, rfl, rfl, hwr⟩ := hrel
    subst hwr
    by_cases hjM : j < M
    · have dj : decide ((j : Int) < (M : Int)) = true := decide_eq_true (by omega)
      have dj' : decide (j < M) = true := decide_eq_true hjM
      have aj : ∀ z : World, (Op.stringOp .add (aN j) ⟨#[97]⟩).run Try.prog z = .ok (.string (aN (j + 1))) z := fun z => by rw [← aN_succ]; exact run_string_add_sum z _ _ (by rw [aN_size]; show j + 1 ≤ _; omega)
      obtain ⟨AJ1, hA1⟩ : ∃ A, aN (j + 1) = A := ⟨_, rfl⟩
      obtain ⟨AJ, hA0⟩ : ∃ A, aN j = A := ⟨_, rfl⟩
      rw [hA1, hA0] at aj
      rw [hA0]
      have HA1 : Hid (aN (j + 1) = AJ1) := hA1
      clear hA1 hA0
      go_wp2_with fail
      go_roundw
      case rel => exact ⟨j + 1, by omega, by rw [HA1.out], by go_num, by trivial⟩
      case measure => simp only [intOf]; omega
    · obtain rfl : j = M := by omega
      have dj : decide ((j : Int) < (j : Int)) = false := decide_eq_false (by omega)
      rw [HAN.out]
      go_upto_region 12 with fail
      clear dj
      go_upto_region 13 with (first | (go_at_call 14; refine Calls.mono (HDG.out _ (by omega) _) ?_; rintro e v ⟨rfl, q⟩; first | (have HV2 : Hid (Kp wr v) := kp_trans HV1.out q; clear q; rw [HD2.out]) | (have HV1 : Hid (Kp wr v) := q; clear q; rw [HD1.out])) | (go_at_call 12; refine Calls.mono (compiled_any PT false _) ?_; rw [HON.out]; rintro e v2 ⟨q1, cv, rfl, q2⟩; obtain ⟨ca, cc, rfl, u1, u2⟩ := owns_form q2; rw [gr_len] at u1 ⊢; have HV : Hid (Kp wr v2 ∧ Cd v2 (.slice ca (n + 4 * h + 1) cc) (grC n h true)) := ⟨kp_trans HV2.out q1, by have := row_cd q2; rw [gr_len] at this; exact this⟩; clear q1 q2 u1 u2) | (go_at_call 11; refine Calls.mono (at_m HV.out.2 ok_gr false h line hl2 0 5000) ?_; rintro e tA ⟨q1, q2⟩; rw [HYA.out] at q1; subst q1; have HTA : Hid (Kp wr tA) := kp_trans HV.out.1 q2; clear q2; obtain ⟨mA, hmA⟩ : ∃ b, tA.heap.size = b := ⟨_, rfl⟩; obtain ⟨zA, hzA⟩ : ∃ W, tA.alloc (.cells #[.int .i64 0, .int .i64 0, .int .i64 0, .int .i64 0, .int .i64 0, .int .i64 0, .int .i64 0, .int .i64 0, .int .i64 0, .int .i64 0, .int .i64 0, .int .i64 0, .int .i64 0, .int .i64 0, .int .i64 0, .int .i64 0, .int .i64 0, .int .i64 0, .int .i64 0, .int .i64 0, .int .i64 0, .int .i64 0] 25) = W := ⟨_, rfl⟩; have HZA : Hid (Kp wr zA ∧ Lc 25 mA z22 zA ∧ tA.heap.size = mA) := (by rw [← hzA, ← hmA]; exact ⟨kp_trans HTA.out (kp_alloc _ _), Lc.new tA z22 _, rfl⟩)) | (refine wpList_store_box HZA.out.2.1 0 LA rfl 25 (.tmp 15) (.tmp 54) rfl rfl rfl (by rw [Nat.zero_add, HLA.out.1]; exact Nat.le_refl _) (by rw [HLA.out.1]; exact sizeMatch) HLA.out.2 (sets_full _ _ (by rw [HLA.out.1]; rfl)) ?_; intro W3 q1 q2 q3; have HW3 : Hid (Kp wr W3 ∧ Lc 25 mA LA W3) := ⟨HZA.out.1.trans (q2.below HZA.out.1.size fun j hj q => by unfold On at q; have h1 := HZA.out.2.2; have h2 := HTA.out.size; omega), q1⟩; clear q1 q2 q3))
      clear hmA hzA a1 a2 a3 a4 a5 m1 m2 m3 m1' m2' m3'
      skip
      by_cases hnm : n ≤ j
      · obtain ⟨r0, r1⟩ := HD.out.2 hnm
        have hsT : sA = true := by rw [HD.out.1]; exact decide_eq_true hnm
        subst hsT
        have g0 : W3.cell? ⟨mA, 0, none⟩ = some (.int .i64 0) := HW3.out.2.at r0
        have g1 : W3.cell? ⟨mA, 1, none⟩ = some (.int .i64 n) := HW3.out.2.at r1
        have y1 : decide ((j : Int) ≥ (n : Int)) = true := decide_eq_true (by omega)
        have y2 : decide ((n : Int) ≤ (j : Int)) = true := decide_eq_true (by omega)
        have y3 : decide (n ≤ j) = true := decide_eq_true hnm
        clear r0 r1 hnm
        go_wp2_with (go_at_call 10; refine Calls.mono (known_m _) ?_; rintro e w9 ⟨rfl, q⟩; have H9 : Hid (Kp wr w9) := kp_trans HW3.out.1 q; replace g0 := kp_cell q g0; replace g1 := kp_cell q g1; clear q)
        go_ret
        exact ⟨rfl, H9.out⟩
      · have hsT : sA = false := by rw [HD.out.1]; exact decide_eq_false hnm
        subst hsT
        have y1 : decide ((j : Int) ≥ (n : Int)) = false := decide_eq_false (by omega)
        have y2 : decide ((n : Int) ≤ (j : Int)) = false := decide_eq_false (by omega)
        have y3 : decide (n ≤ j) = false := decide_eq_false hnm
        clear hnm
        go_wp2_with (go_at_call 10; refine Calls.mono (known_m _) ?_; rintro e w9 ⟨rfl, q⟩; have H9 : Hid (Kp wr w9) := kp_trans HW3.out.1 q; clear q)
        go_ret
        exact ⟨rfl, H9.out⟩
theorem greedy_law (a : Nat) (ha : a < 256) (b : Nat) (hb : b < 256) (c : Nat) (hc : c < 256) (lz : Bool) (w : World) : Calls Try.prog 4 #[.int .u8 a, .int .u8 b, .int .u8 c, .bool lz] w fun e w' => e = .returned (.bool true) ∧ Kp w w' := by
  cases lz
  · exact greedyG a ha b hb c hc w
  · exact greedyL a ha b hb c hc w
end Go.Proofs.Ytibgpkkgaekakaa
