/- Texts that the proof of the law stands on: CN. -/
import Derived.Test.YtaefeakmlgjonaaGreatPartL
import Derived.Deep.QuietTactic
import Derived.BigQuiet
/- BufMoves, walked. -/
namespace Go.Proofs.YtaefeakmlgjonaaGreat
open Go.ChangeShapes Go.WideShapes Go.ChangeAt Go.RowKit Go.Maps Go.MapKept
set_option linter.unusedVariables false
set_option linter.unusedSimpArgs false
set_option maxRecDepth 100000
theorem Sl.sub2 {P : Nat → Prop} {a : Option Addr} {n c : Nat} {ls : List ByteArray} {w : World} (h : Sl P (.slice a n c) ls w) {i k c' : Nat} (hik : i + k ≤ ls.length) (hc : c' + i = c) {a' : Option Addr} (ha : a' = if c' = 0 then a else a.map (·.add i)) : Sl P (.slice a' k c') ((ls.drop i).take k) w :=
  h.sub hik hc (by
    rw [ha]
    by_cases z : c' = 0
    · rw [if_pos z, if_pos (by omega)]
    · rw [if_neg z, if_neg (by omega)])
set_option maxHeartbeats 128000000 in
theorem moves_law {v : Value} {ls : List ByteArray} {W : World} (hF : Sl (fun k => k < W.heap.size) v ls W) (x : Int) (hx : -9223372036854775808 ≤ x ∧ x < 9223372036854775808) (y : Int) (hy : -9223372036854775808 ≤ y ∧ y < 9223372036854775808) (z : Int) (hz : -9223372036854775808 ≤ z ∧ z < 9223372036854775808) : Calls Tryz.prog 3 #[v, .int .i64 x, .int .i64 y, .int .i64 z] W fun e w' => e = .returned (.bool true) ∧ Below W.heap.size W w' := by
  have HV : Hid _ := heavy0_any hF
  obtain ⟨va, vc, rfl, c1, c2, _⟩ := hF.form
  obtain ⟨n, hn⟩ : ∃ n, ls.length = n := ⟨_, rfl⟩
  have HF : Hid (Sl (fun k => k < W.heap.size) (.slice va n vc) ls W ∧ ls.length = n) := ⟨by rw [← hn]; exact hF, hn⟩
  rw [hn] at HV c1 ⊢
  unfold maxLen at c2
  have hn9 : n ≤ 9223372036854775807 := by omega
  have e1 := eqB
  have e2 := eqB0
  have HK : Hid (∀ z, Kp W z → Calls Tryz.prog 10 #[] z fun e w' => e = .returned (.bool true) ∧ Hid (Kp W w')) := fun z kz => (bknown_any z).mono (by rintro e w' ⟨rfl, k⟩; exact ⟨rfl, kp_trans kz k⟩)
  have hvc : (n : Int) ≤ (vc : Int) ∧ (vc : Int) ≤ 9223372036854775807 := by omega
  clear hF hn c1 c2
  go_enter Tryz.func3, Tryz.ntmps3
  go_wp2_with fail
  refine Calls.mono HV.out ?_
  rintro e w1 ⟨⟨hv, rfl⟩, q1, rfl⟩
  clear HV
  cases hv with
  | true =>
    go_wp2_with fail
    refine Calls.mono (HK.out _ (kp_drewN _ _)) ?_
    rintro e w2 ⟨rfl, H2⟩
    clear HK
    go_wp2_with fail
    go_ret
    exact ⟨rfl, H2.out⟩
  | false =>
    by_cases h0 : n = 0
    · have d0 : ((n : Int) == 0) = true := by subst h0; rfl
      go_wp2_with fail
      refine Calls.mono (HK.out _ (kp_drewN _ _)) ?_
      rintro e w2 ⟨rfl, H2⟩
      clear HK
      go_wp2_with fail
      go_ret
      exact ⟨rfl, H2.out⟩
    have d0 : ((n : Int) == 0) = false := beq_eq_false_iff_ne.2 (by omega)
    by_cases h300 : 300 < n
    · have d1 : decide ((n : Int) > 300) = true := decide_eq_true (by omega)
      have d2 : decide ((300 : Int) < (n : Int)) = true := decide_eq_true (by omega)
      have d3 : decide (300 < n) = true := decide_eq_true h300
      go_wp2_with fail
      refine Calls.mono (HK.out _ (kp_drewN _ _)) ?_
      rintro e w2 ⟨rfl, H2⟩
      clear HK
      go_wp2_with fail
      go_ret
      exact ⟨rfl, H2.out⟩
    have d1 : decide ((n : Int) > 300) = false := decide_eq_false (by omega)
    have d2 : decide ((300 : Int) < (n : Int)) = false := decide_eq_false (by omega)
    have d3 : decide (300 < n) = false := decide_eq_false h300
    go_wp2_with fail
    refine Calls.mono (HK.out _ (kp_drewN _ _)) ?_
    rintro e w2 ⟨rfl, H2⟩
    have hsl2 := HF.out.1.kp H2.out
    clear HK
    by_cases hE : beyondE (ls.length : Int) ls = 0
    · have HN : Hid _ := bnew_yes (B := W.heap.size) H2.out.size hsl2 (n := 20) (by decide) hE
      have HLn : Hid (Ln ls) := ln_new hE
      clear hE hsl2
      go_wp2_with fail
      refine Calls.mono HN.out ?_
      rintro e w3 ⟨b, rfl, k3, o, a, h3, _⟩
      have H3 : Hid (Kp W w3 ∧ Bf W.heap.size b o 50000 a (newS ls 20) w3) := ⟨kp_trans H2.out k3, h3⟩
      clear HN k3 h3 H2
      obtain ⟨A, hA, hA1⟩ := modN x (k := (n : Int)) (by omega)
      obtain ⟨Z, hZ, hZ1⟩ := modN y (k := (n : Int) - (1 + (A : Int)) + 1) (by omega)
      obtain ⟨D, hD, hD1⟩ := modN z (k := (n : Int) + 1) (by omega)
      have hAZ : A + Z < n := by omega
      have hDn : D ≤ n := by omega
      have hn3 : n ≤ 300 := by omega
      have hne : ((n : Int) = 0) = False := by simp; omega
      have hn0 : (n : Int) ≠ 0 := by omega
      have hn1 : (n : Int) - (1 + (A : Int)) + 1 ≠ 0 := by omega
      have hn2 : (n : Int) + 1 ≠ 0 := by omega
      clear hA1 hZ1 hD1
      go_wp2_with fail
      by_cases m1 : A + 1 ≤ D ∧ D < A + 1 + Z
      · as_aux_lemma =>
        have HMv : Hid (Calls Tryz.prog 12 #[.pointer (some ⟨b, 0, none⟩), .int .i64 (1 + (A : Int)), .int .i64 (1 + (A : Int) + (Z : Int)), .int .i64 (D : Int)] w3 fun e w' => e = .returned (.int .u16 160) ∧ ∃ q, w' = w3.drewN q) := by
          have el := new_ls HF.out.2 (by omega)
          exact move_mid H3.out.2 (by rw [el]; exact HLn.out) (by omega) (by omega) (by omega) (by rw [el, HF.out.2]; omega)
        have g1 : decide ((D : Int) ≥ 1 + (A : Int)) = true := decide_eq_true (by omega)
        have g2 : decide (1 + (A : Int) ≤ (D : Int)) = true := decide_eq_true (by omega)
        have g3 : decide ((D : Int) < 1 + (A : Int) + (Z : Int)) = true := decide_eq_true (by omega)
        refine Calls.mono HMv.out ?_
        rintro e w4 ⟨rfl, q4, rfl⟩
        clear HMv
        have HLi : Hid (∀ z, Kp w3 z → Calls Tryz.prog 14 #[.pointer (some ⟨b, 0, none⟩)] z fun e w' => ∃ gb, e = .returned (.slice (some ⟨gb, 0, none⟩) n n) ∧ Sl (fun _ => True) (.slice (some ⟨gb, 0, none⟩) n n) ls w' ∧ Kp z w') := fun z kz => by
          have el := new_ls HF.out.2 (by omega)
          have := blinesL (H3.out.2.kp_ kz) (by rw [el, HF.out.2]; omega)
          rw [el, HF.out.2] at this
          exact this.mono (by rintro e w' ⟨gb, rfl, r, k⟩; exact ⟨gb, rfl, (Sl.of_row r).mono fun _ _ _ => trivial, k⟩)
        go_wp2_with fail
        refine Calls.mono (HLi.out _ (kp_drewN _ _)) ?_
        rintro e w5 ⟨gb, rfl, s5, k5⟩
        have H5 : Hid (Kp W w5) := kp_trans (kp_trans H3.out.1 (kp_drewN _ _)) k5
        have HSm : Hid (Calls Tryz.prog 13 #[.slice (some ⟨gb, 0, none⟩) n n, .slice va n vc] w5 fun e w' => e = .returned (.bool true) ∧ ∃ q, w' = w5.drewN q) := o2same_eq s5 (HF.out.1.kp H5.out)
        clear HLi s5 k5 H3
        go_wp2_with fail
        refine Calls.mono HSm.out ?_
        rintro e w6 ⟨rfl, q6, rfl⟩
        have HX : Hid (Below W.heap.size W (w5.drewN q6)) := kp_trans H5.out (kp_drewN _ _)
        clear HSm H5
        go_wp2_with fail
        go_ret
        exact ⟨rfl, HX.out⟩
      · by_cases m2 : D = A
        · as_aux_lemma =>
          have HMv : Hid (Calls Tryz.prog 12 #[.pointer (some ⟨b, 0, none⟩), .int .i64 (1 + (A : Int)), .int .i64 (1 + (A : Int) + (Z : Int)), .int .i64 (D : Int)] w3 fun e w' => e = .returned (.int .u16 0) ∧ ∃ S, Hid (Mvd W.heap.size b o a S ls n A A Z w' ∧ FK W.heap.size o o w3 w' ∧ S.op = [] ∧ S.ls = ls)) := mv_stay_all H3.out.2 HLn.out HF.out.2 hAZ (.inl m2)
          have g1 : decide ((D : Int) ≥ 1 + (A : Int)) = false := decide_eq_false (by omega)
          have g2 : decide (1 + (A : Int) ≤ (D : Int)) = false := decide_eq_false (by omega)
          have g4 : decide ((D : Int) < 1 + (A : Int)) = true := decide_eq_true (by omega)
          refine Calls.mono HMv.out ?_
          rintro e w4 ⟨rfl, S, H4⟩
          clear HMv
          have HO : Hid (Kp W w4 ∧ Mvd W.heap.size b o a S ls n A A Z w4 ∧ S.op = [] ∧ S.ls = ls) := ⟨H3.out.1.trans (H4.out.2.1.below H3.out.1.size), H4.out.1, H4.out.2.2⟩
          clear H4 H3
          have HLi : Hid (Calls Tryz.prog 14 #[.pointer (some ⟨b, 0, none⟩)] w4 fun e w' => ∃ gb, e = .returned (.slice (some ⟨gb, 0, none⟩) n n) ∧ Row w4.heap.size (.slice (some ⟨gb, 0, none⟩) n n) S.ls w' ∧ Kp w4 w') := by
            have := blinesL HO.out.2.1.bf (by rw [HO.out.2.1.len]; omega)
            rw [HO.out.2.1.len] at this
            exact this
          go_wp2_with fail
          refine Calls.mono HLi.out ?_
          rintro e w5 ⟨gb, rfl, s5, k5⟩
          have H5 : Hid (Kp w4 w5 ∧ Kp W w5 ∧ Sl (fun _ => True) (.slice (some ⟨gb, 0, none⟩) n n) S.ls w5 ∧ Row w4.heap.size (.slice (some ⟨gb, 0, none⟩) n n) S.ls w5) := ⟨k5, kp_trans HO.out.1 k5, (Sl.of_row s5).mono fun _ _ _ => trivial, s5⟩
          clear HLi s5 k5
          have hfi : (D : Int) + 1 = 1 + (A : Int) := by omega
          have HSm : Hid (∀ (q l1 l2 c1 c2 : Nat) (a1 a2 : Option Addr), l1 = Z + 1 → l2 = Z + 1 → c1 + A = n → c2 + A = vc → a1 = some ⟨gb, A, none⟩ → a2 = va.map (·.add A) → Calls Tryz.prog 13 #[.slice a1 l1 c1, .slice a2 l2 c2] (w5.drewN q) fun e w' => e = .returned (.bool true) ∧ ∃ q', w' = (w5.drewN q).drewN q') := fun q l1 l2 c1 c2 a1 a2 h1 h2 h3 h4 h5 h6 => by
            subst h1 h2
            have t1 := (H5.out.2.2.1.kp (kp_drewN w5 q)).sub2 (i := A) (k := Z + 1) (c' := c1) (by rw [HO.out.2.1.len]; omega) h3 (a' := a1) (by rw [if_neg (by omega), h5]; show some (⟨gb, A, none⟩ : Addr) = some ((⟨gb, 0, none⟩ : Addr).add A); rw [add2, Nat.zero_add])
            have t2 := ((HF.out.1.kp H5.out.2.1).kp (kp_drewN w5 q)).sub2 (i := A) (k := Z + 1) (c' := c2) (by rw [HF.out.2]; omega) h4 (a' := a2) (by rw [if_neg (by omega)]; exact h6)
            rw [HO.out.2.1.mv] at t1
            exact o2same_eq t1 t2
          go_wp2_with fail
          go_quiet ((go_at_call 13; exact Calls.quiet_of (HSm.out _ _ _ _ _ _ _ (by omega) (by omega) (by omega) (by omega) rfl rfl)))
          clear HSm
          have HCm : Hid (∀ m, Calls Tryz.prog 15 #[.pointer (some ⟨b, 0, none⟩)] (w5.drewN m) fun e w' => (∃ v, e = .returned v) ∧ Hid (FK W.heap.size o o w5 w') ∧ Hid (Calls Tryz.prog 16 #[.pointer (some ⟨b, 0, none⟩)] w' fun e w2 => e = .returned (.int .u16 121) ∧ Hid (FK W.heap.size o o w' w2))) := fun m => (mv_stay_undo (HO.out.2.1.kp (kp_trans H5.out.1 (kp_drewN w5 m))) HLn.out HF.out.2 (by omega) HO.out.2.2.1).mono (by
            rintro e w' ⟨q1, q2, q3⟩
            exact ⟨q1, (FK.kp (kp_drewN w5 m) o).trans q2.out, q3⟩)
          go_wp2_with fail
          refine Calls.mono (HCm.out _) ?_
          rintro e w7 ⟨⟨v7, rfl⟩, H7, HUn⟩
          clear HCm
          go_wp2_with fail
          refine Calls.mono HUn.out ?_
          rintro e w8 ⟨rfl, H8⟩
          have HX8 : Hid (Kp W w8) := by
            have f8 := H7.out.trans H8.out
            exact H5.out.2.1.trans (f8.below H5.out.2.1.size)
          have HSm : Hid (Calls Tryz.prog 13 #[.slice (some ⟨gb, 0, none⟩) n n, .slice va n vc] w8 fun e w' => e = .returned (.bool true) ∧ ∃ q, w' = w8.drewN q) := by
            have r5 := row_rq HO.out.2.1.bf (Nat.le_refl _) H5.out.2.2.2
            have r8 := (H7.out.trans H8.out).rq r5
            have r9 := (Sl.of_row r8.1).mono (Q := fun _ => True) fun _ _ _ => trivial
            rw [HO.out.2.2.2] at r9
            exact o2same_eq r9 (HF.out.1.kp HX8.out)
          clear HUn H7 H8 H5 HO
          have hA1 : 1 + (A : Int) - 1 = (A : Int) := by omega
          go_wp2_with fail
          refine Calls.mono HSm.out ?_
          rintro e w9 ⟨rfl, q9, rfl⟩
          have HX : Hid (Below W.heap.size W (w8.drewN q9)) := kp_trans HX8.out (kp_drewN _ _)
          clear HSm HX8
          go_wp2_with fail
          go_ret
          exact ⟨rfl, HX.out⟩
        · by_cases m3 : D = A + Z + 1
          · as_aux_lemma =>
            have HMv : Hid (Calls Tryz.prog 12 #[.pointer (some ⟨b, 0, none⟩), .int .i64 (1 + (A : Int)), .int .i64 (1 + (A : Int) + (Z : Int)), .int .i64 (D : Int)] w3 fun e w' => e = .returned (.int .u16 0) ∧ ∃ S, Hid (Mvd W.heap.size b o a S ls n A A Z w' ∧ FK W.heap.size o o w3 w' ∧ S.op = [] ∧ S.ls = ls)) := mv_stay_all H3.out.2 HLn.out HF.out.2 hAZ (.inr m3)
            have g1 : decide ((D : Int) ≥ 1 + (A : Int)) = true := decide_eq_true (by omega)
            have g2 : decide (1 + (A : Int) ≤ (D : Int)) = true := decide_eq_true (by omega)
            have g3 : decide ((D : Int) < 1 + (A : Int) + (Z : Int)) = false := decide_eq_false (by omega)
            have g4 : decide ((D : Int) < 1 + (A : Int)) = false := decide_eq_false (by omega)
            have g5 : decide ((D : Int) > 1 + (A : Int) + (Z : Int)) = false := decide_eq_false (by omega)
            have g6 : decide (1 + (A : Int) + (Z : Int) < (D : Int)) = false := decide_eq_false (by omega)
            refine Calls.mono HMv.out ?_
            rintro e w4 ⟨rfl, S, H4⟩
            clear HMv
            have HO : Hid (Kp W w4 ∧ Mvd W.heap.size b o a S ls n A A Z w4 ∧ S.op = [] ∧ S.ls = ls) := ⟨H3.out.1.trans (H4.out.2.1.below H3.out.1.size), H4.out.1, H4.out.2.2⟩
            clear H4 H3
            have HLi : Hid (Calls Tryz.prog 14 #[.pointer (some ⟨b, 0, none⟩)] w4 fun e w' => ∃ gb, e = .returned (.slice (some ⟨gb, 0, none⟩) n n) ∧ Row w4.heap.size (.slice (some ⟨gb, 0, none⟩) n n) S.ls w' ∧ Kp w4 w') := by
              have := blinesL HO.out.2.1.bf (by rw [HO.out.2.1.len]; omega)
              rw [HO.out.2.1.len] at this
              exact this
            go_wp2_with fail
            refine Calls.mono HLi.out ?_
            rintro e w5 ⟨gb, rfl, s5, k5⟩
            have H5 : Hid (Kp w4 w5 ∧ Kp W w5 ∧ Sl (fun _ => True) (.slice (some ⟨gb, 0, none⟩) n n) S.ls w5 ∧ Row w4.heap.size (.slice (some ⟨gb, 0, none⟩) n n) S.ls w5) := ⟨k5, kp_trans HO.out.1 k5, (Sl.of_row s5).mono fun _ _ _ => trivial, s5⟩
            clear HLi s5 k5
            have HSm : Hid (∀ (q l1 l2 c1 c2 : Nat) (a1 a2 : Option Addr), l1 = Z + 1 → l2 = Z + 1 → c1 + A = n → c2 + A = vc → a1 = some ⟨gb, A, none⟩ → a2 = va.map (·.add A) → Calls Tryz.prog 13 #[.slice a1 l1 c1, .slice a2 l2 c2] (w5.drewN q) fun e w' => e = .returned (.bool true) ∧ ∃ q', w' = (w5.drewN q).drewN q') := fun q l1 l2 c1 c2 a1 a2 h1 h2 h3 h4 h5 h6 => by
              subst h1 h2
              have t1 := (H5.out.2.2.1.kp (kp_drewN w5 q)).sub2 (i := A) (k := Z + 1) (c' := c1) (by rw [HO.out.2.1.len]; omega) h3 (a' := a1) (by rw [if_neg (by omega), h5]; show some (⟨gb, A, none⟩ : Addr) = some ((⟨gb, 0, none⟩ : Addr).add A); rw [add2, Nat.zero_add])
              have t2 := ((HF.out.1.kp H5.out.2.1).kp (kp_drewN w5 q)).sub2 (i := A) (k := Z + 1) (c' := c2) (by rw [HF.out.2]; omega) h4 (a' := a2) (by rw [if_neg (by omega)]; exact h6)
              rw [HO.out.2.1.mv] at t1
              exact o2same_eq t1 t2
            go_wp2_with fail
            go_quiet ((go_at_call 13; exact Calls.quiet_of (HSm.out _ _ _ _ _ _ _ (by omega) (by omega) (by omega) (by omega) rfl rfl)))
            clear HSm
            have HCm : Hid (∀ m, Calls Tryz.prog 15 #[.pointer (some ⟨b, 0, none⟩)] (w5.drewN m) fun e w' => (∃ v, e = .returned v) ∧ Hid (FK W.heap.size o o w5 w') ∧ Hid (Calls Tryz.prog 16 #[.pointer (some ⟨b, 0, none⟩)] w' fun e w2 => e = .returned (.int .u16 121) ∧ Hid (FK W.heap.size o o w' w2))) := fun m => (mv_stay_undo (HO.out.2.1.kp (kp_trans H5.out.1 (kp_drewN w5 m))) HLn.out HF.out.2 (by omega) HO.out.2.2.1).mono (by
              rintro e w' ⟨q1, q2, q3⟩
              exact ⟨q1, (FK.kp (kp_drewN w5 m) o).trans q2.out, q3⟩)
            go_wp2_with fail
            refine Calls.mono (HCm.out _) ?_
            rintro e w7 ⟨⟨v7, rfl⟩, H7, HUn⟩
            clear HCm
            go_wp2_with fail
            refine Calls.mono HUn.out ?_
            rintro e w8 ⟨rfl, H8⟩
            have HX8 : Hid (Kp W w8) := by
              have f8 := H7.out.trans H8.out
              exact H5.out.2.1.trans (f8.below H5.out.2.1.size)
            have HSm : Hid (Calls Tryz.prog 13 #[.slice (some ⟨gb, 0, none⟩) n n, .slice va n vc] w8 fun e w' => e = .returned (.bool true) ∧ ∃ q, w' = w8.drewN q) := by
              have r5 := row_rq HO.out.2.1.bf (Nat.le_refl _) H5.out.2.2.2
              have r8 := (H7.out.trans H8.out).rq r5
              have r9 := (Sl.of_row r8.1).mono (Q := fun _ => True) fun _ _ _ => trivial
              rw [HO.out.2.2.2] at r9
              exact o2same_eq r9 (HF.out.1.kp HX8.out)
            clear HUn H7 H8 H5 HO
            have hbq46 : ((A : Int) + (Z : Int) + 1 == 1 + (A : Int) - 1) = false := by first | (rw [beq_eq_false_iff_ne]; omega) | (simp; omega)
            have hbq54 : ((A : Int) + (Z : Int) + 1 == 1 + (A : Int) + (Z : Int)) = true := by first | (rw [beq_iff_eq]; omega) | (simp; omega)
            go_wp2_with fail
            refine Calls.mono HSm.out ?_
            rintro e w9 ⟨rfl, q9, rfl⟩
            have HX : Hid (Below W.heap.size W (w8.drewN q9)) := kp_trans HX8.out (kp_drewN _ _)
            clear HSm HX8
            go_wp2_with fail
            go_ret
            exact ⟨rfl, HX.out⟩
          · by_cases m4 : D < A
            · as_aux_lemma =>
              have HMv : Hid (Calls Tryz.prog 12 #[.pointer (some ⟨b, 0, none⟩), .int .i64 (1 + (A : Int)), .int .i64 (1 + (A : Int) + (Z : Int)), .int .i64 (D : Int)] w3 fun e w' => e = .returned (.int .u16 0) ∧ ∃ o' a' S, Hid (Mvd W.heap.size b o' a' S ls n D A Z w' ∧ FK W.heap.size o o' w3 w' ∧ S.op ≠ [])) := mv_up_all H3.out.2 HLn.out HF.out.2 hAZ m4
              have g1 : decide ((D : Int) ≥ 1 + (A : Int)) = false := decide_eq_false (by omega)
              have g2 : decide (1 + (A : Int) ≤ (D : Int)) = false := decide_eq_false (by omega)
              have g4 : decide ((D : Int) < 1 + (A : Int)) = true := decide_eq_true (by omega)
              refine Calls.mono HMv.out ?_
              rintro e w4 ⟨rfl, o', a', S, H4⟩
              clear HMv
              have HO : Hid (Kp W w4 ∧ Mvd W.heap.size b o' a' S ls n D A Z w4 ∧ S.op ≠ []) := ⟨H3.out.1.trans (H4.out.2.1.below H3.out.1.size), H4.out.1, H4.out.2.2⟩
              clear H4 H3
              have HLi : Hid (Calls Tryz.prog 14 #[.pointer (some ⟨b, 0, none⟩)] w4 fun e w' => ∃ gb, e = .returned (.slice (some ⟨gb, 0, none⟩) n n) ∧ Row w4.heap.size (.slice (some ⟨gb, 0, none⟩) n n) S.ls w' ∧ Kp w4 w') := by
                have := blinesL HO.out.2.1.bf (by rw [HO.out.2.1.len]; omega)
                rw [HO.out.2.1.len] at this
                exact this
              go_wp2_with fail
              refine Calls.mono HLi.out ?_
              rintro e w5 ⟨gb, rfl, s5, k5⟩
              have H5 : Hid (Kp w4 w5 ∧ Kp W w5 ∧ Sl (fun _ => True) (.slice (some ⟨gb, 0, none⟩) n n) S.ls w5 ∧ Row w4.heap.size (.slice (some ⟨gb, 0, none⟩) n n) S.ls w5) := ⟨k5, kp_trans HO.out.1 k5, (Sl.of_row s5).mono fun _ _ _ => trivial, s5⟩
              clear HLi s5 k5
              have HSm : Hid (∀ (q l1 l2 c1 c2 : Nat) (a1 a2 : Option Addr), l1 = Z + 1 → l2 = Z + 1 → c1 + D = n → c2 + A = vc → a1 = some ⟨gb, D, none⟩ → a2 = va.map (·.add A) → Calls Tryz.prog 13 #[.slice a1 l1 c1, .slice a2 l2 c2] (w5.drewN q) fun e w' => e = .returned (.bool true) ∧ ∃ q', w' = (w5.drewN q).drewN q') := fun q l1 l2 c1 c2 a1 a2 h1 h2 h3 h4 h5 h6 => by
                subst h1 h2
                have t1 := (H5.out.2.2.1.kp (kp_drewN w5 q)).sub2 (i := D) (k := Z + 1) (c' := c1) (by rw [HO.out.2.1.len]; omega) h3 (a' := a1) (by rw [if_neg (by omega), h5]; show some (⟨gb, D, none⟩ : Addr) = some ((⟨gb, 0, none⟩ : Addr).add D); rw [add2, Nat.zero_add])
                have t2 := ((HF.out.1.kp H5.out.2.1).kp (kp_drewN w5 q)).sub2 (i := A) (k := Z + 1) (c' := c2) (by rw [HF.out.2]; omega) h4 (a' := a2) (by rw [if_neg (by omega)]; exact h6)
                rw [HO.out.2.1.mv] at t1
                exact o2same_eq t1 t2
              go_wp2_with fail
              go_quiet ((go_at_call 13; exact Calls.quiet_of (HSm.out _ _ _ _ _ _ _ (by omega) (by omega) (by omega) (by omega) rfl rfl)))
              clear HSm
              have HCm : Hid (∀ m, Calls Tryz.prog 15 #[.pointer (some ⟨b, 0, none⟩)] (w5.drewN m) fun e w' => (∃ v, e = .returned v) ∧ ∃ a'', Hid (Bf W.heap.size b o' 140000 a'' (cmS S) w' ∧ FK W.heap.size o' o' w5 w')) := fun m => (mv_commit (HO.out.2.1.kp (kp_trans H5.out.1 (kp_drewN w5 m))) HO.out.2.2).mono (by
                rintro e w' ⟨q1, a'', q2⟩
                exact ⟨q1, a'', q2.out.1, (FK.kp (kp_drewN w5 m) o').trans q2.out.2⟩)
              go_wp2_with fail
              refine Calls.mono (HCm.out _) ?_
              rintro e w7 ⟨⟨v7, rfl⟩, a7, H7⟩
              have HUn : Hid (Calls Tryz.prog 16 #[.pointer (some ⟨b, 0, none⟩)] w7 fun e w' => e = .returned (.int .u16 0) ∧ ∃ o2 M2 a2 s2, Hid (Bf W.heap.size b o2 M2 a2 s2 w' ∧ s2.ls = ls ∧ FK W.heap.size o' o2 w7 w')) := mv_undo HO.out.2.1 HLn.out HF.out.2 (by omega) HO.out.2.2 H7.out.1
              clear HCm
              go_wp2_with fail
              refine Calls.mono HUn.out ?_
              rintro e w8 ⟨rfl, o2, M2, a2, s2, H8⟩
              have HX8 : Hid (Kp W w8 ∧ Bf W.heap.size b o2 M2 a2 s2 w8 ∧ s2.ls = ls) := by
                have f8 := H7.out.2.trans H8.out.2.2
                exact ⟨H5.out.2.1.trans (f8.below H5.out.2.1.size), H8.out.1, H8.out.2.1⟩
              clear HUn H7 H8 H5 HO
              have HL2 : Hid (∀ z, Kp w8 z → Calls Tryz.prog 14 #[.pointer (some ⟨b, 0, none⟩)] z fun e w' => ∃ gc, e = .returned (.slice (some ⟨gc, 0, none⟩) n n) ∧ Row z.heap.size (.slice (some ⟨gc, 0, none⟩) n n) ls w' ∧ Kp z w') := fun z kz => by
                have := blinesL (HX8.out.2.1.kp_ kz) (by rw [HX8.out.2.2, HF.out.2]; omega)
                rw [HX8.out.2.2, HF.out.2] at this
                exact this
              have hbq30 : ((D : Int) == 1 + (A : Int) - 1) = false := by first | (rw [beq_eq_false_iff_ne]; omega) | (simp; omega)
              have hbq38 : ((D : Int) == 1 + (A : Int) + (Z : Int)) = false := by first | (rw [beq_eq_false_iff_ne]; omega) | (simp; omega)
              go_wp2_with fail
              refine Calls.mono (HL2.out _ (by first | exact Below.refl _ _ | exact kp_drew _ | exact kp_drewN _ _)) ?_
              rintro e w9 ⟨gc, rfl, r9, k9⟩
              have H9 : Hid (Kp W w9) := kp_trans HX8.out.1 (by first | exact k9 | exact kp_trans (kp_drew _) k9 | exact kp_trans (kp_drewN _ _) k9)
              have HSm : Hid (Calls Tryz.prog 13 #[.slice (some ⟨gc, 0, none⟩) n n, .slice va n vc] w9 fun e w' => e = .returned (.bool true) ∧ ∃ q, w' = w9.drewN q) := o2same_eq ((Sl.of_row r9).mono (Q := fun _ => True) fun _ _ _ => trivial) (HF.out.1.kp H9.out)
              clear HL2 r9 k9 HX8
              go_wp2_with fail
              refine Calls.mono HSm.out ?_
              rintro e w10 ⟨rfl, q10, rfl⟩
              have HX : Hid (Below W.heap.size W (w9.drewN q10)) := kp_trans H9.out (kp_drewN _ _)
              clear HSm H9
              go_wp2_with fail
              go_ret
              exact ⟨rfl, HX.out⟩
            · as_aux_lemma =>
              obtain ⟨F, hF⟩ : ∃ F : Nat, F + (Z + 1) = D := ⟨D - (Z + 1), by omega⟩
              have HMv : Hid (Calls Tryz.prog 12 #[.pointer (some ⟨b, 0, none⟩), .int .i64 (1 + (A : Int)), .int .i64 (1 + (A : Int) + (Z : Int)), .int .i64 (D : Int)] w3 fun e w' => e = .returned (.int .u16 0) ∧ ∃ o' a' S, Hid (Mvd W.heap.size b o' a' S ls n F A Z w' ∧ FK W.heap.size o o' w3 w' ∧ S.op ≠ [])) := mv_down_all H3.out.2 HLn.out HF.out.2 hDn (by omega) hF
              have g1 : decide ((D : Int) ≥ 1 + (A : Int)) = true := decide_eq_true (by omega)
              have g2 : decide (1 + (A : Int) ≤ (D : Int)) = true := decide_eq_true (by omega)
              have g3 : decide ((D : Int) < 1 + (A : Int) + (Z : Int)) = false := decide_eq_false (by omega)
              have g4 : decide ((D : Int) < 1 + (A : Int)) = false := decide_eq_false (by omega)
              have g5 : decide ((D : Int) > 1 + (A : Int) + (Z : Int)) = true := decide_eq_true (by omega)
              have g6 : decide (1 + (A : Int) + (Z : Int) < (D : Int)) = true := decide_eq_true (by omega)
              refine Calls.mono HMv.out ?_
              rintro e w4 ⟨rfl, o', a', S, H4⟩
              clear HMv
              have HO : Hid (Kp W w4 ∧ Mvd W.heap.size b o' a' S ls n F A Z w4 ∧ S.op ≠ []) := ⟨H3.out.1.trans (H4.out.2.1.below H3.out.1.size), H4.out.1, H4.out.2.2⟩
              clear H4 H3
              have HLi : Hid (Calls Tryz.prog 14 #[.pointer (some ⟨b, 0, none⟩)] w4 fun e w' => ∃ gb, e = .returned (.slice (some ⟨gb, 0, none⟩) n n) ∧ Row w4.heap.size (.slice (some ⟨gb, 0, none⟩) n n) S.ls w' ∧ Kp w4 w') := by
                have := blinesL HO.out.2.1.bf (by rw [HO.out.2.1.len]; omega)
                rw [HO.out.2.1.len] at this
                exact this
              go_wp2_with fail
              refine Calls.mono HLi.out ?_
              rintro e w5 ⟨gb, rfl, s5, k5⟩
              have H5 : Hid (Kp w4 w5 ∧ Kp W w5 ∧ Sl (fun _ => True) (.slice (some ⟨gb, 0, none⟩) n n) S.ls w5 ∧ Row w4.heap.size (.slice (some ⟨gb, 0, none⟩) n n) S.ls w5) := ⟨k5, kp_trans HO.out.1 k5, (Sl.of_row s5).mono fun _ _ _ => trivial, s5⟩
              clear HLi s5 k5
              have hfi : (D : Int) - (1 + (A : Int) + (Z : Int) - (1 + (A : Int))) = (F : Int) + 1 := by omega
              have HSm : Hid (∀ (q l1 l2 c1 c2 : Nat) (a1 a2 : Option Addr), l1 = Z + 1 → l2 = Z + 1 → c1 + F = n → c2 + A = vc → a1 = some ⟨gb, F, none⟩ → a2 = va.map (·.add A) → Calls Tryz.prog 13 #[.slice a1 l1 c1, .slice a2 l2 c2] (w5.drewN q) fun e w' => e = .returned (.bool true) ∧ ∃ q', w' = (w5.drewN q).drewN q') := fun q l1 l2 c1 c2 a1 a2 h1 h2 h3 h4 h5 h6 => by
                subst h1 h2
                have t1 := (H5.out.2.2.1.kp (kp_drewN w5 q)).sub2 (i := F) (k := Z + 1) (c' := c1) (by rw [HO.out.2.1.len]; omega) h3 (a' := a1) (by rw [if_neg (by omega), h5]; show some (⟨gb, F, none⟩ : Addr) = some ((⟨gb, 0, none⟩ : Addr).add F); rw [add2, Nat.zero_add])
                have t2 := ((HF.out.1.kp H5.out.2.1).kp (kp_drewN w5 q)).sub2 (i := A) (k := Z + 1) (c' := c2) (by rw [HF.out.2]; omega) h4 (a' := a2) (by rw [if_neg (by omega)]; exact h6)
                rw [HO.out.2.1.mv] at t1
                exact o2same_eq t1 t2
              go_wp2_with fail
              go_quiet ((go_at_call 13; exact Calls.quiet_of (HSm.out _ _ _ _ _ _ _ (by omega) (by omega) (by omega) (by omega) rfl rfl)))
              clear HSm
              have HCm : Hid (∀ m, Calls Tryz.prog 15 #[.pointer (some ⟨b, 0, none⟩)] (w5.drewN m) fun e w' => (∃ v, e = .returned v) ∧ ∃ a'', Hid (Bf W.heap.size b o' 140000 a'' (cmS S) w' ∧ FK W.heap.size o' o' w5 w')) := fun m => (mv_commit (HO.out.2.1.kp (kp_trans H5.out.1 (kp_drewN w5 m))) HO.out.2.2).mono (by
                rintro e w' ⟨q1, a'', q2⟩
                exact ⟨q1, a'', q2.out.1, (FK.kp (kp_drewN w5 m) o').trans q2.out.2⟩)
              go_wp2_with fail
              refine Calls.mono (HCm.out _) ?_
              rintro e w7 ⟨⟨v7, rfl⟩, a7, H7⟩
              have HUn : Hid (Calls Tryz.prog 16 #[.pointer (some ⟨b, 0, none⟩)] w7 fun e w' => e = .returned (.int .u16 0) ∧ ∃ o2 M2 a2 s2, Hid (Bf W.heap.size b o2 M2 a2 s2 w' ∧ s2.ls = ls ∧ FK W.heap.size o' o2 w7 w')) := mv_undo HO.out.2.1 HLn.out HF.out.2 (by omega) HO.out.2.2 H7.out.1
              clear HCm
              go_wp2_with fail
              refine Calls.mono HUn.out ?_
              rintro e w8 ⟨rfl, o2, M2, a2, s2, H8⟩
              have HX8 : Hid (Kp W w8 ∧ Bf W.heap.size b o2 M2 a2 s2 w8 ∧ s2.ls = ls) := by
                have f8 := H7.out.2.trans H8.out.2.2
                exact ⟨H5.out.2.1.trans (f8.below H5.out.2.1.size), H8.out.1, H8.out.2.1⟩
              clear HUn H7 H8 H5 HO
              have HL2 : Hid (∀ z, Kp w8 z → Calls Tryz.prog 14 #[.pointer (some ⟨b, 0, none⟩)] z fun e w' => ∃ gc, e = .returned (.slice (some ⟨gc, 0, none⟩) n n) ∧ Row z.heap.size (.slice (some ⟨gc, 0, none⟩) n n) ls w' ∧ Kp z w') := fun z kz => by
                have := blinesL (HX8.out.2.1.kp_ kz) (by rw [HX8.out.2.2, HF.out.2]; omega)
                rw [HX8.out.2.2, HF.out.2] at this
                exact this
              have hbq30 : ((D : Int) == 1 + (A : Int) - 1) = false := by first | (rw [beq_eq_false_iff_ne]; omega) | (simp; omega)
              have hbq38 : ((D : Int) == 1 + (A : Int) + (Z : Int)) = false := by first | (rw [beq_eq_false_iff_ne]; omega) | (simp; omega)
              go_wp2_with fail
              refine Calls.mono (HL2.out _ (by first | exact Below.refl _ _ | exact kp_drew _ | exact kp_drewN _ _)) ?_
              rintro e w9 ⟨gc, rfl, r9, k9⟩
              have H9 : Hid (Kp W w9) := kp_trans HX8.out.1 (by first | exact k9 | exact kp_trans (kp_drew _) k9 | exact kp_trans (kp_drewN _ _) k9)
              have HSm : Hid (Calls Tryz.prog 13 #[.slice (some ⟨gc, 0, none⟩) n n, .slice va n vc] w9 fun e w' => e = .returned (.bool true) ∧ ∃ q, w' = w9.drewN q) := o2same_eq ((Sl.of_row r9).mono (Q := fun _ => True) fun _ _ _ => trivial) (HF.out.1.kp H9.out)
              clear HL2 r9 k9 HX8
              go_wp2_with fail
              refine Calls.mono HSm.out ?_
              rintro e w10 ⟨rfl, q10, rfl⟩
              have HX : Hid (Below W.heap.size W (w9.drewN q10)) := kp_trans H9.out (kp_drewN _ _)
              clear HSm H9
              go_wp2_with fail
              go_ret
              exact ⟨rfl, HX.out⟩
    · as_aux_lemma =>
      have hE90 : beyondE (ls.length : Int) ls = 90 := by
        have hl := HF.out.2
        unfold beyondE at hE ⊢
        rw [if_neg (by omega)] at hE ⊢
        split
        · rfl
        · rename_i q; rw [if_neg q] at hE; exact absurd rfl hE
      have HN : Hid _ := bnew_no hsl2 (n := 20) (by decide) hE90 (by decide) (by decide)
      clear hE hsl2 hE90
      go_wp2_with fail
      refine Calls.mono HN.out ?_
      rintro e w3 ⟨rfl, k3⟩
      have HX : Hid (Kp W w3) := kp_trans H2.out k3
      clear HN k3
      go_wp2_with fail
      go_ret
      exact ⟨rfl, HX.out⟩
end Go.Proofs.YtaefeakmlgjonaaGreat
