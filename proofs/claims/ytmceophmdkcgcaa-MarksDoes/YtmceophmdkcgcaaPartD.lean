/- Texts that the proof of the law stands on: MR2, MR3, MX, MD, MDW. -/
import Derived.Test.YtmceophmdkcgcaaPartC
import Derived.Test.YtmceophmdkcgcaaPartA
import Derived.Deep.RegionWith
import Derived.Deep.Cut
import Derived.Deep.RegionHeld3
import Derived.BigCall
/- The document's Get, Splice, Move and All. -/
namespace Go.Proofs.Ytmceophmdkcgcaa
open Go.ChangeShapes Go.WideShapes Go.ChangeAt Go.RowKit Go.Maps Go.MapKept
set_option linter.unusedVariables false
set_option linter.unusedSimpArgs false
/-- Lines under way: those of the first i letters have been told. -/
structure Rgo (r : Nat) (f f' : Mf) (i : Nat) (w W : World) : Prop where
  box : Lc 66 r (rcs (part f f' i)) W
  fr : Fr (On r) w W
section
variable {r : Nat} {f f' : Mf} {w w1 W : World} {i : Nat}
theorem Rgo.stay (h : Rgo r f f' i w W) (hi : i < 26) (hc : (f' (97 + (i : Int))).getD 0 = (f (97 + (i : Int))).getD 0) : Rgo r f f' (i + 1) w W := ⟨by rw [← part_same hi hc]; exact h.box, h.fr⟩
theorem Rgo.put (h : Rgo r f f' i w W) (hi : i < 26) {c : Int} (hc : (f' (97 + (i : Int))).getD 0 = c) : Rgo r f f' (i + 1) w (W.setCell ⟨r, i, none⟩ (.int .i64 c)) := ⟨by rw [← part_set hi hc]; exact h.box.set i _, h.fr.trans (fr_set _ _ _ _)⟩
theorem Rgo.at_ (h : Rgo r f f' i w W) (hi : i < 26) : W.cell? ⟨r, i, none⟩ = some (.int .i64 ((f (97 + (i : Int))).getD 0)) := by
  have := h.box.at (rcs_at (part f f' i) hi)
  rw [part_at] at this; exact this
theorem Rgo.start (h : Rm r f w) (hd : ∀ x c, f' x = some c → 97 ≤ x ∧ x ≤ 122) : Rgo r f f' 0 w w := ⟨by rw [part_zero (fun x c hx => (h.dom x c hx).1) (fun x c hx => (hd x c hx).1)]; exact h.box, Fr.refl _ _⟩
theorem Rgo.end_ (h : Rgo r f f' 26 w W) (hd0 : ∀ x c, f x = some c → 97 ≤ x ∧ x ≤ 122) (hd : ∀ x c, f' x = some c → 97 ≤ x ∧ x ≤ 122) : Rm r f' W ∧ Fr (On r) w W := by
  have := h.box
  rw [part_end (fun x c hx => (hd0 x c hx).2) (fun x c hx => (hd x c hx).2)] at this
  exact ⟨⟨this, hd⟩, h.fr⟩
theorem spF_dom (hd : ∀ x c, f x = some c → 97 ≤ x ∧ x ≤ 122) (a n l : Int) : ∀ x c, spF f a n l x = some c → 97 ≤ x ∧ x ≤ 122 := fun x c hx => by
  unfold spF at hx
  split at hx
  · exact hd x c hx
  · cases q : f x with
    | none => simp [q] at hx
    | some y => exact hd x y q
theorem mvF_dom (hd : ∀ x c, f x = some c → 97 ≤ x ∧ x ≤ 122) (a z d : Int) : ∀ x c, mvF f a z d x = some c → 97 ≤ x ∧ x ≤ 122 := fun x c hx => by
  unfold mvF at hx
  repeat' split at hx
  · exact hd x c hx
  · cases q : f x with
    | none => simp [q] at hx
    | some y => exact hd x y q
  · cases q : f x with
    | none => simp [q] at hx
    | some y => exact hd x y q
  · exact hd x c hx
set_option maxHeartbeats 4000000 in
set_option maxRecDepth 100000 in
theorem jget_any {M : Int} (h : Rm r f w) (hB : Bd M f) {x : Nat} (h1 : x < 256) :
    Calls Try.prog 18 #[.pointer (some ⟨r, 0, none⟩), .int .u8 x] w fun e w' => e = .returned (.tuple #[.int .i64 ((f x).getD 0), .int .i64 (if (f x).isSome then 0 else 100)]) ∧ w' = w := by
  by_cases q : (x : Int) < 97 ∨ 122 < (x : Int)
  · have hf : f x = none := by
      cases p : f x with
      | none => rfl
      | some c => have := h.dom x c p; omega
    rw [hf]
    simp only [Option.getD_none, Option.isSome_none, Bool.false_eq_true, if_false]
    clear hf h hB
    by_cases q1 : (x : Int) < 97
    · have d1 : decide ((x : Int) < 97) = true := decide_eq_true q1
      have d2 : decide (x < 97) = true := decide_eq_true (by omega)
      go_enter Try.func18, Try.ntmps18
      go_wp2
      go_ret2
      exact ⟨rfl, rfl⟩
    · have d1 : decide ((x : Int) < 97) = false := decide_eq_false q1
      have d1' : decide (x < 97) = false := decide_eq_false (by omega)
      have d2 : decide ((x : Int) > 122) = true := decide_eq_true (by omega)
      have d3 : decide (122 < (x : Int)) = true := decide_eq_true (by omega)
      have d4 : decide (122 < x) = true := decide_eq_true (by omega)
      go_enter Try.func18, Try.ntmps18
      go_wp2
      go_ret2
      exact ⟨rfl, rfl⟩
  · have d1 : decide ((x : Int) < 97) = false := decide_eq_false (by omega)
    have d1' : decide (x < 97) = false := decide_eq_false (by omega)
    have d2 : decide ((x : Int) > 122) = false := decide_eq_false (by omega)
    have d3 : decide (122 < (x : Int)) = false := decide_eq_false (by omega)
    have d3' : decide (122 < x) = false := decide_eq_false (by omega)
    obtain ⟨k, hk⟩ : ∃ k, x = 97 + k := ⟨x - 97, by omega⟩
    have u1 : (x : Int) - 97 = (k : Int) := by omega
    have k26 : k < 26 := by omega
    have c0 := h.box.at (rcs_at f k26)
    rw [show (97 : Int) + (k : Int) = (x : Int) by omega] at c0
    cases p : f x with
    | none =>
      rw [p] at c0
      simp only [Option.getD_none, Option.isSome_none, Bool.false_eq_true, if_false] at c0 ⊢
      clear h hB p hk q
      go_enter Try.func18, Try.ntmps18
      go_wp2
      go_ret2
      exact ⟨rfl, rfl⟩
    | some c =>
      have hc := hB x c p
      rw [p] at c0
      simp only [Option.getD_some, Option.isSome_some, if_true] at c0 ⊢
      have e0 : (c == 0) = false := by simp; omega
      clear h hB p hk q
      go_enter Try.func18, Try.ntmps18
      go_wp2
      go_ret2
      exact ⟨rfl, rfl⟩
set_option maxHeartbeats 16000000 in
set_option maxRecDepth 100000 in
theorem jsplice_any {M : Int} (h : Rm r f w) (hB : Bd M f) (hM : M ≤ 1099511627776) (hM0 : 0 ≤ M) (a n l : Int) :
    Calls Try.prog 16 #[.pointer (some ⟨r, 0, none⟩), .int .i64 a, .int .i64 n, .int .i64 l] w fun e w' => e = .returned (.tuple #[]) ∧ Rm r (spF f a n l) w' ∧ Fr (On r) w w' := by
  by_cases q0 : a < 1
  · have HP : Hid (Rm r (spF f a n l) w ∧ Fr (On r) w w) := by unfold spF; rw [if_pos (by omega)]; exact ⟨h, Fr.refl _ _⟩
    have g0_0 : decide (a < 1) = true := decide_eq_true (by omega)
    clear h hB hM q0
    go_enter Try.func16, Try.ntmps16
    go_wp2
    refine bodyPost_ret (results_none rfl _ _ _) rfl ?_
    exact ⟨rfl, HP.out⟩
  by_cases q1 : 2147483647 < a
  · have HP : Hid (Rm r (spF f a n l) w ∧ Fr (On r) w w) := by unfold spF; rw [if_pos (by omega)]; exact ⟨h, Fr.refl _ _⟩
    have g0_0 : decide (a < 1) = false := decide_eq_false (by omega)
    have g1_0 : decide (a > 2147483647) = true := decide_eq_true (by omega)
    have g1_1 : decide (2147483647 < a) = true := decide_eq_true (by omega)
    clear h hB hM q0 q1
    go_enter Try.func16, Try.ntmps16
    go_wp2
    refine bodyPost_ret (results_none rfl _ _ _) rfl ?_
    exact ⟨rfl, HP.out⟩
  by_cases q2 : n < 0
  · have HP : Hid (Rm r (spF f a n l) w ∧ Fr (On r) w w) := by unfold spF; rw [if_pos (by omega)]; exact ⟨h, Fr.refl _ _⟩
    have g0_0 : decide (a < 1) = false := decide_eq_false (by omega)
    have g1_0 : decide (a > 2147483647) = false := decide_eq_false (by omega)
    have g1_1 : decide (2147483647 < a) = false := decide_eq_false (by omega)
    have g2_0 : decide (n < 0) = true := decide_eq_true (by omega)
    clear h hB hM q0 q1 q2
    go_enter Try.func16, Try.ntmps16
    go_wp2
    refine bodyPost_ret (results_none rfl _ _ _) rfl ?_
    exact ⟨rfl, HP.out⟩
  by_cases q3 : 2147483647 < n
  · have HP : Hid (Rm r (spF f a n l) w ∧ Fr (On r) w w) := by unfold spF; rw [if_pos (by omega)]; exact ⟨h, Fr.refl _ _⟩
    have g0_0 : decide (a < 1) = false := decide_eq_false (by omega)
    have g1_0 : decide (a > 2147483647) = false := decide_eq_false (by omega)
    have g1_1 : decide (2147483647 < a) = false := decide_eq_false (by omega)
    have g2_0 : decide (n < 0) = false := decide_eq_false (by omega)
    have g3_0 : decide (n > 2147483647) = true := decide_eq_true (by omega)
    have g3_1 : decide (2147483647 < n) = true := decide_eq_true (by omega)
    clear h hB hM q0 q1 q2 q3
    go_enter Try.func16, Try.ntmps16
    go_wp2
    refine bodyPost_ret (results_none rfl _ _ _) rfl ?_
    exact ⟨rfl, HP.out⟩
  by_cases q4 : l < 0
  · have HP : Hid (Rm r (spF f a n l) w ∧ Fr (On r) w w) := by unfold spF; rw [if_pos (by omega)]; exact ⟨h, Fr.refl _ _⟩
    have g0_0 : decide (a < 1) = false := decide_eq_false (by omega)
    have g1_0 : decide (a > 2147483647) = false := decide_eq_false (by omega)
    have g1_1 : decide (2147483647 < a) = false := decide_eq_false (by omega)
    have g2_0 : decide (n < 0) = false := decide_eq_false (by omega)
    have g3_0 : decide (n > 2147483647) = false := decide_eq_false (by omega)
    have g3_1 : decide (2147483647 < n) = false := decide_eq_false (by omega)
    have g4_0 : decide (l < 0) = true := decide_eq_true (by omega)
    clear h hB hM q0 q1 q2 q3 q4
    go_enter Try.func16, Try.ntmps16
    go_wp2
    refine bodyPost_ret (results_none rfl _ _ _) rfl ?_
    exact ⟨rfl, HP.out⟩
  by_cases q5 : 2147483647 < l
  · have HP : Hid (Rm r (spF f a n l) w ∧ Fr (On r) w w) := by unfold spF; rw [if_pos (by omega)]; exact ⟨h, Fr.refl _ _⟩
    have g0_0 : decide (a < 1) = false := decide_eq_false (by omega)
    have g1_0 : decide (a > 2147483647) = false := decide_eq_false (by omega)
    have g1_1 : decide (2147483647 < a) = false := decide_eq_false (by omega)
    have g2_0 : decide (n < 0) = false := decide_eq_false (by omega)
    have g3_0 : decide (n > 2147483647) = false := decide_eq_false (by omega)
    have g3_1 : decide (2147483647 < n) = false := decide_eq_false (by omega)
    have g4_0 : decide (l < 0) = false := decide_eq_false (by omega)
    have g5_0 : decide (l > 2147483647) = true := decide_eq_true (by omega)
    have g5_1 : decide (2147483647 < l) = true := decide_eq_true (by omega)
    clear h hB hM q0 q1 q2 q3 q4 q5
    go_enter Try.func16, Try.ntmps16
    go_wp2
    refine bodyPost_ret (results_none rfl _ _ _) rfl ?_
    exact ⟨rfl, HP.out⟩
  have g0_0 : decide (a < 1) = false := decide_eq_false (by omega)
  have g1_0 : decide (a > 2147483647) = false := decide_eq_false (by omega)
  have g1_1 : decide (2147483647 < a) = false := decide_eq_false (by omega)
  have g2_0 : decide (n < 0) = false := decide_eq_false (by omega)
  have g3_0 : decide (n > 2147483647) = false := decide_eq_false (by omega)
  have g3_1 : decide (2147483647 < n) = false := decide_eq_false (by omega)
  have g4_0 : decide (l < 0) = false := decide_eq_false (by omega)
  have g5_0 : decide (l > 2147483647) = false := decide_eq_false (by omega)
  have g5_1 : decide (2147483647 < l) = false := decide_eq_false (by omega)
  have H0 : Hid (Rgo r f (spF f a n l) 0 w w) := Rgo.start h (spF_dom h.dom a n l)
  have HD : Hid (∀ W, Rgo r f (spF f a n l) 26 w W → Rm r (spF f a n l) W ∧ Fr (On r) w W) := fun W hW => hW.end_ h.dom (spF_dom h.dom a n l)
  have HEq : Hid (∀ x, (spF f a n l) x = (f x).bind (fun c => spl a n l c)) := fun x => by unfold spF; rw [if_neg (by omega)]
  have HB : Hid (Bd M f) := hB
  have HB0 : Hid (0 ≤ M) := hM0
  clear h hB
  go_enter Try.func16, Try.ntmps16
  go_wp2_with fail
  go_loopw [8] (fun v8 wr => ∃ i : Nat, i ≤ 26 ∧ v8 = .int .i64 i ∧ Hid (Rgo r f (spF f a n l) i w wr)) (fun v8 _ => 26 - (intOf v8).toNat)
  case atStart => exact ⟨0, by omega, rfl, H0.out⟩
  case round =>
    obtain ⟨i, hi, rfl, HI⟩ := hrel
    by_cases qi : i < 26
    · have di : decide ((i : Int) < 26) = true := decide_eq_true (by omega)
      have di2 : decide (i < 26) = true := decide_eq_true (by omega)
      have c0 := HI.out.at_ qi
      have f0 := HI.out.box.fz i
      have HV : Hid (∀ c, (f (97 + (i : Int))).getD 0 = c → 0 ≤ c ∧ c ≤ M ∧ ((spF f a n l) (97 + (i : Int))).getD 0 = (if c = 0 then none else spl a n l c).getD 0) := fun c hc => by
        have e0 : (spF f a n l) (97 + (i : Int)) = (f (97 + (i : Int))).bind (fun c => spl a n l c) := HEq.out _
        rw [e0]
        cases p : f (97 + (i : Int)) with
        | none => rw [p] at hc; simp only [Option.getD_none] at hc; subst hc; exact ⟨by omega, HB0.out, by simp⟩
        | some y =>
          have := HB.out _ y p
          rw [p] at hc; simp only [Option.getD_some] at hc; subst hc
          refine ⟨by omega, by omega, ?_⟩
          rw [if_neg (by omega)]; rfl
      obtain ⟨c, hc⟩ : ∃ c, (f (97 + (i : Int))).getD 0 = c := ⟨_, rfl⟩
      obtain ⟨c1, c2, c3⟩ := HV.out c hc
      rw [hc] at c0
      have HCC : Hid ((f (97 + (i : Int))).getD 0 = c) := hc
      clear HV hc
      by_cases w1 : c < a
      · have k1 : decide (c < a) = true := decide_eq_true w1
        have hval : ((spF f a n l) (97 + (i : Int))).getD 0 = c := by
          rw [c3]; by_cases hz : c = 0
          · rw [if_pos hz]; simp [hz]
          · rw [if_neg hz]; unfold spl; rw [if_pos w1]; rfl
        have HR : Hid (Rgo r f (spF f a n l) (i + 1) w wr) := HI.out.stay qi (by rw [HCC.out]; exact hval)
        clear HI HCC hval c3 HB HB0 HEq w1
        go_wp2_with fail
        exact ⟨⟨i + 1, by omega, by go_num, HR.out⟩, by simp only [intOf]; omega⟩
      · have k1 : decide (c < a) = false := decide_eq_false w1
        have v1 : wrap64 (c - a) = c - a := by unfold wrap64; omega
        have hc0 : c ≠ 0 := by omega
        rw [if_neg hc0] at c3
        by_cases w2 : c - a < n
        · have k2 : decide (c - a ≥ n) = false := decide_eq_false (by omega)
          have k2b : decide (n ≤ c - a) = false := decide_eq_false (by omega)
          by_cases w3 : c - a < l
          · have k3 : decide (c - a ≥ l) = false := decide_eq_false (by omega)
            have k3b : decide (l ≤ c - a) = false := decide_eq_false (by omega)
            have hval : ((spF f a n l) (97 + (i : Int))).getD 0 = c := by rw [c3]; unfold spl; rw [if_neg w1, if_pos w2, if_pos w3]; rfl
            have HR : Hid (Rgo r f (spF f a n l) (i + 1) w wr) := HI.out.stay qi (by rw [HCC.out]; exact hval)
            clear HI HCC hval c3 HB HB0 HEq w1 w2 w3 hc0
            go_wp2_with fail
            exact ⟨⟨i + 1, by omega, by go_num, HR.out⟩, by simp only [intOf]; omega⟩
          · have k3 : decide (c - a ≥ l) = true := decide_eq_true (by omega)
            have k3b : decide (l ≤ c - a) = true := decide_eq_true (by omega)
            have hval : ((spF f a n l) (97 + (i : Int))).getD 0 = 0 := by rw [c3]; unfold spl; rw [if_neg w1, if_pos w2, if_neg w3]; rfl
            have HR : Hid (Rgo r f (spF f a n l) (i + 1) w (wr.setCell ⟨r, i, none⟩ (.int .i64 (0)))) := HI.out.put qi hval
            clear HI HCC hval c3 HB HB0 HEq w1 w2 w3 hc0
            go_wp2_with fail
            exact ⟨⟨i + 1, by omega, by go_num, HR.out⟩, by simp only [intOf]; omega⟩
        · have k2 : decide (c - a ≥ n) = true := decide_eq_true (by omega)
          have k2b : decide (n ≤ c - a) = true := decide_eq_true (by omega)
          have v2 : wrap64 (c - n) = c - n := by unfold wrap64; omega
          have v3 : wrap64 (c - n + l) = c - n + l := by unfold wrap64; omega
          have hval : ((spF f a n l) (97 + (i : Int))).getD 0 = c - n + l := by rw [c3]; unfold spl; rw [if_neg w1, if_neg w2]; show c + l - n = _; omega
          have HR : Hid (Rgo r f (spF f a n l) (i + 1) w (wr.setCell ⟨r, i, none⟩ (.int .i64 (c - n + l)))) := HI.out.put qi hval
          clear HI HCC hval c3 HB HB0 HEq w1 w2 hc0
          go_wp2_with fail
          exact ⟨⟨i + 1, by omega, by go_num, HR.out⟩, by simp only [intOf]; omega⟩
    · obtain rfl : i = 26 := by omega
      have HR : Hid (Rm r (spF f a n l) wr ∧ Fr (On r) w wr) := HD.out wr HI.out
      clear HI HB HB0 HEq HD
      go_wp2_with fail
      go_end0
      exact ⟨rfl, HR.out⟩
set_option maxHeartbeats 16000000 in
set_option maxRecDepth 100000 in
theorem jmove_any {M : Int} (h : Rm r f w) (hB : Bd M f) (hM : M ≤ 1099511627776) (hM0 : 0 ≤ M) (a z d : Int) :
    Calls Try.prog 17 #[.pointer (some ⟨r, 0, none⟩), .int .i64 a, .int .i64 z, .int .i64 d] w fun e w' => e = .returned (.tuple #[]) ∧ Rm r (mvF f a z d) w' ∧ Fr (On r) w w' := by
  by_cases q0 : a < 1
  · have HP : Hid (Rm r (mvF f a z d) w ∧ Fr (On r) w w) := by unfold mvF; rw [if_pos (by omega)]; exact ⟨h, Fr.refl _ _⟩
    have g0_0 : decide (a < 1) = true := decide_eq_true (by omega)
    clear h hB hM q0
    go_enter Try.func17, Try.ntmps17
    go_wp2
    refine bodyPost_ret (results_none rfl _ _ _) rfl ?_
    exact ⟨rfl, HP.out⟩
  by_cases q1 : z < a
  · have HP : Hid (Rm r (mvF f a z d) w ∧ Fr (On r) w w) := by unfold mvF; rw [if_pos (by omega)]; exact ⟨h, Fr.refl _ _⟩
    have g0_0 : decide (a < 1) = false := decide_eq_false (by omega)
    have g1_0 : decide (z < a) = true := decide_eq_true (by omega)
    clear h hB hM q0 q1
    go_enter Try.func17, Try.ntmps17
    go_wp2
    refine bodyPost_ret (results_none rfl _ _ _) rfl ?_
    exact ⟨rfl, HP.out⟩
  by_cases q2 : 2147483647 < z
  · have HP : Hid (Rm r (mvF f a z d) w ∧ Fr (On r) w w) := by unfold mvF; rw [if_pos (by omega)]; exact ⟨h, Fr.refl _ _⟩
    have g0_0 : decide (a < 1) = false := decide_eq_false (by omega)
    have g1_0 : decide (z < a) = false := decide_eq_false (by omega)
    have g2_0 : decide (z > 2147483647) = true := decide_eq_true (by omega)
    have g2_1 : decide (2147483647 < z) = true := decide_eq_true (by omega)
    clear h hB hM q0 q1 q2
    go_enter Try.func17, Try.ntmps17
    go_wp2
    refine bodyPost_ret (results_none rfl _ _ _) rfl ?_
    exact ⟨rfl, HP.out⟩
  by_cases q3 : d < 0
  · have HP : Hid (Rm r (mvF f a z d) w ∧ Fr (On r) w w) := by unfold mvF; rw [if_pos (by omega)]; exact ⟨h, Fr.refl _ _⟩
    have g0_0 : decide (a < 1) = false := decide_eq_false (by omega)
    have g1_0 : decide (z < a) = false := decide_eq_false (by omega)
    have g2_0 : decide (z > 2147483647) = false := decide_eq_false (by omega)
    have g2_1 : decide (2147483647 < z) = false := decide_eq_false (by omega)
    have g3_0 : decide (d < 0) = true := decide_eq_true (by omega)
    clear h hB hM q0 q1 q2 q3
    go_enter Try.func17, Try.ntmps17
    go_wp2
    refine bodyPost_ret (results_none rfl _ _ _) rfl ?_
    exact ⟨rfl, HP.out⟩
  by_cases q4 : 2147483647 < d
  · have HP : Hid (Rm r (mvF f a z d) w ∧ Fr (On r) w w) := by unfold mvF; rw [if_pos (by omega)]; exact ⟨h, Fr.refl _ _⟩
    have g0_0 : decide (a < 1) = false := decide_eq_false (by omega)
    have g1_0 : decide (z < a) = false := decide_eq_false (by omega)
    have g2_0 : decide (z > 2147483647) = false := decide_eq_false (by omega)
    have g2_1 : decide (2147483647 < z) = false := decide_eq_false (by omega)
    have g3_0 : decide (d < 0) = false := decide_eq_false (by omega)
    have g4_0 : decide (d > 2147483647) = true := decide_eq_true (by omega)
    have g4_1 : decide (2147483647 < d) = true := decide_eq_true (by omega)
    clear h hB hM q0 q1 q2 q3 q4
    go_enter Try.func17, Try.ntmps17
    go_wp2
    refine bodyPost_ret (results_none rfl _ _ _) rfl ?_
    exact ⟨rfl, HP.out⟩
  have g0_0 : decide (a < 1) = false := decide_eq_false (by omega)
  have g1_0 : decide (z < a) = false := decide_eq_false (by omega)
  have g2_0 : decide (z > 2147483647) = false := decide_eq_false (by omega)
  have g2_1 : decide (2147483647 < z) = false := decide_eq_false (by omega)
  have g3_0 : decide (d < 0) = false := decide_eq_false (by omega)
  have g4_0 : decide (d > 2147483647) = false := decide_eq_false (by omega)
  have g4_1 : decide (2147483647 < d) = false := decide_eq_false (by omega)
  have u1 : wrap64 (a - 1) = a - 1 := by unfold wrap64; omega
  by_cases qq : a - 1 ≤ d ∧ d ≤ z
  · have HP : Hid (Rm r (mvF f a z d) w ∧ Fr (On r) w w) := by unfold mvF; rw [if_neg (by omega), if_neg (by omega), if_neg (by omega)]; exact ⟨h, Fr.refl _ _⟩
    have r1 : decide (d ≥ a - 1) = true := decide_eq_true (by omega)
    have r1b : decide (a - 1 ≤ d) = true := decide_eq_true (by omega)
    have r2 : decide (d ≤ z) = true := decide_eq_true (by omega)
    clear h hB hM q0 q1 q2 q3 q4 qq
    go_enter Try.func17, Try.ntmps17
    go_wp2
    refine bodyPost_ret (results_none rfl _ _ _) rfl ?_
    exact ⟨rfl, HP.out⟩
  have HEq : Hid (∀ x, (mvF f a z d) x = (f x).bind (fun c => if z < d then exc a z d c else exc (d + 1) (a - 1) z c)) := fun x => by
    unfold mvF; rw [if_neg (by omega)]
    split
    · rfl
    · rw [if_pos (by omega)]
  have H0 : Hid (Rgo r f (mvF f a z d) 0 w w) := Rgo.start h (mvF_dom h.dom a z d)
  have HD : Hid (∀ W, Rgo r f (mvF f a z d) 26 w W → Rm r (mvF f a z d) W ∧ Fr (On r) w W) := fun W hW => hW.end_ h.dom (mvF_dom h.dom a z d)
  have HB : Hid (Bd M f) := hB
  have HB0 : Hid (0 ≤ M) := hM0
  obtain ⟨n, hn⟩ : ∃ n, n = z - a + 1 := ⟨_, rfl⟩
  have u2 : wrap64 (z - a) = z - a := by unfold wrap64; omega
  have u3 : wrap64 (z - a + 1) = n := by unfold wrap64; omega
  have u4 : z - a + 1 = n := hn.symm
  have HN : Hid (n = z - a + 1) := hn
  have n0 : 0 ≤ n := by omega
  have n1 : n ≤ 2147483647 := by omega
  clear h hB hn
  by_cases zd : z < d
  · have r1 : decide (d ≥ a - 1) = true := decide_eq_true (by omega)
    have r1b : decide (a - 1 ≤ d) = true := decide_eq_true (by omega)
    have r2 : decide (d ≤ z) = false := decide_eq_false (by omega)
    have r3 : decide (d < a) = false := decide_eq_false (by omega)
    go_enter Try.func17, Try.ntmps17
    go_wp2_with fail
    go_loopw [9] (fun v8 wr => ∃ i : Nat, i ≤ 26 ∧ v8 = .int .i64 i ∧ Hid (Rgo r f (mvF f a z d) i w wr)) (fun v8 _ => 26 - (intOf v8).toNat)
    case atStart => exact ⟨0, by omega, rfl, H0.out⟩
    case round =>
      obtain ⟨i, hi, rfl, HI⟩ := hrel
      by_cases qi : i < 26
      · have di : decide ((i : Int) < 26) = true := decide_eq_true (by omega)
        have di2 : decide (i < 26) = true := decide_eq_true (by omega)
        have c0 := HI.out.at_ qi
        have f0 := HI.out.box.fz i
        have HV : Hid (∀ c, (f (97 + (i : Int))).getD 0 = c → 0 ≤ c ∧ c ≤ M ∧ ((mvF f a z d) (97 + (i : Int))).getD 0 = (if c = 0 then none else (if z < d then exc a z d c else exc (d + 1) (a - 1) z c)).getD 0) := fun c hc => by
          have e0 : (mvF f a z d) (97 + (i : Int)) = (f (97 + (i : Int))).bind (fun c => (if z < d then exc a z d c else exc (d + 1) (a - 1) z c)) := HEq.out _
          rw [e0]
          cases p : f (97 + (i : Int)) with
          | none => rw [p] at hc; simp only [Option.getD_none] at hc; subst hc; exact ⟨by omega, HB0.out, by simp⟩
          | some y =>
            have := HB.out _ y p
            rw [p] at hc; simp only [Option.getD_some] at hc; subst hc
            refine ⟨by omega, by omega, ?_⟩
            rw [if_neg (by omega)]; rfl
        obtain ⟨c, hc⟩ : ∃ c, (f (97 + (i : Int))).getD 0 = c := ⟨_, rfl⟩
        obtain ⟨c1, c2, c3⟩ := HV.out c hc
        rw [hc] at c0
        have HCC : Hid ((f (97 + (i : Int))).getD 0 = c) := hc
        clear HV hc
        by_cases w1 : a ≤ c ∧ c ≤ z
        · have hc0 : c ≠ 0 := by omega
          rw [if_neg hc0] at c3
          have k10 : decide (c ≥ a) = true := decide_eq_true (by omega)
          have k11 : decide (a ≤ c) = true := decide_eq_true (by omega)
          have k20 : decide (c ≤ z) = true := decide_eq_true (by omega)
          have v1 : wrap64 (d - z) = d - z := by unfold wrap64; omega
          have v2 : wrap64 (d - z + c) = d - z + c := by unfold wrap64; omega
          have hval : ((mvF f a z d) (97 + (i : Int))).getD 0 = d - z + c := by rw [c3]; rw [if_pos zd]; unfold exc; rw [if_neg (by omega), if_pos (by omega)]; show c + d - z = _; omega
          have HR : Hid (Rgo r f (mvF f a z d) (i + 1) w (wr.setCell ⟨r, i, none⟩ (.int .i64 (d - z + c)))) := HI.out.put qi hval
          clear HI HCC hval c3 HB HB0 HEq w1 hc0
          go_wp2_with fail
          exact ⟨⟨i + 1, by omega, by go_num, HR.out⟩, by simp only [intOf]; omega⟩
        · by_cases w2 : d < c ∧ c < a
          · have hc0 : c ≠ 0 := by omega
            rw [if_neg hc0] at c3
            exfalso; omega
          · by_cases w3 : z < c ∧ c ≤ d
            · have hc0 : c ≠ 0 := by omega
              rw [if_neg hc0] at c3
              have k10 : decide (c ≥ a) = true := decide_eq_true (by omega)
              have k11 : decide (a ≤ c) = true := decide_eq_true (by omega)
              have k20 : decide (c ≤ z) = false := decide_eq_false (by omega)
              have k30 : decide (c > d) = false := decide_eq_false (by omega)
              have k31 : decide (d < c) = false := decide_eq_false (by omega)
              have k50 : decide (c > z) = true := decide_eq_true (by omega)
              have k51 : decide (z < c) = true := decide_eq_true (by omega)
              have k60 : decide (c ≤ d) = true := decide_eq_true (by omega)
              have v2 : wrap64 (c - n) = c - n := by unfold wrap64; omega
              have hval : ((mvF f a z d) (97 + (i : Int))).getD 0 = c - n := by rw [c3]; rw [if_pos zd]; unfold exc; rw [if_neg (by omega), if_neg (by omega)]; show c - z + a - 1 = _; have := HN.out; omega
              have HR : Hid (Rgo r f (mvF f a z d) (i + 1) w (wr.setCell ⟨r, i, none⟩ (.int .i64 (c - n)))) := HI.out.put qi hval
              clear HI HCC hval c3 HB HB0 HEq w1 w2 w3 hc0
              go_wp2_with fail
              exact ⟨⟨i + 1, by omega, by go_num, HR.out⟩, by simp only [intOf]; omega⟩
            · have hval : ((mvF f a z d) (97 + (i : Int))).getD 0 = c := by
                rw [c3]; by_cases hz : c = 0
                · rw [if_pos hz]; simp [hz]
                · rw [if_neg hz, if_pos zd]; unfold exc; rw [if_pos (by omega)]; rfl
              by_cases e1 : a ≤ c
              · have k10 : decide (c ≥ a) = true := decide_eq_true (by omega)
                have k11 : decide (a ≤ c) = true := decide_eq_true (by omega)
                have k20 : decide (c ≤ z) = false := decide_eq_false (by omega)
                have k40 : decide (c < a) = false := decide_eq_false (by omega)
                have k50 : decide (c > z) = true := decide_eq_true (by omega)
                have k51 : decide (z < c) = true := decide_eq_true (by omega)
                have k60 : decide (c ≤ d) = false := decide_eq_false (by omega)
                have k30 : decide (c > d) = true := decide_eq_true (by omega)
                have k31 : decide (d < c) = true := decide_eq_true (by omega)
                have HR : Hid (Rgo r f (mvF f a z d) (i + 1) w wr) := HI.out.stay qi (by rw [HCC.out]; exact hval)
                clear HI HCC hval c3 HB HB0 HEq w1 w2 w3 e1
                go_wp2_with fail
                exact ⟨⟨i + 1, by omega, by go_num, HR.out⟩, by simp only [intOf]; omega⟩
              · have k10 : decide (c ≥ a) = false := decide_eq_false (by omega)
                have k11 : decide (a ≤ c) = false := decide_eq_false (by omega)
                have k40 : decide (c < a) = true := decide_eq_true (by omega)
                have k30 : decide (c > d) = false := decide_eq_false (by omega)
                have k31 : decide (d < c) = false := decide_eq_false (by omega)
                have k50 : decide (c > z) = false := decide_eq_false (by omega)
                have k51 : decide (z < c) = false := decide_eq_false (by omega)
                have HR : Hid (Rgo r f (mvF f a z d) (i + 1) w wr) := HI.out.stay qi (by rw [HCC.out]; exact hval)
                clear HI HCC hval c3 HB HB0 HEq w1 w2 w3 e1
                go_wp2_with fail
                exact ⟨⟨i + 1, by omega, by go_num, HR.out⟩, by simp only [intOf]; omega⟩
      · obtain rfl : i = 26 := by omega
        have HR : Hid (Rm r (mvF f a z d) wr ∧ Fr (On r) w wr) := HD.out wr HI.out
        clear HI HB HB0 HEq HD
        go_wp2_with fail
        go_end0
        exact ⟨rfl, HR.out⟩
  · have r1 : decide (d ≥ a - 1) = false := decide_eq_false (by omega)
    have r1b : decide (a - 1 ≤ d) = false := decide_eq_false (by omega)
    have r3 : decide (d < a) = true := decide_eq_true (by omega)
    go_enter Try.func17, Try.ntmps17
    go_wp2_with fail
    go_loopw [9] (fun v8 wr => ∃ i : Nat, i ≤ 26 ∧ v8 = .int .i64 i ∧ Hid (Rgo r f (mvF f a z d) i w wr)) (fun v8 _ => 26 - (intOf v8).toNat)
    case atStart => exact ⟨0, by omega, rfl, H0.out⟩
    case round =>
      obtain ⟨i, hi, rfl, HI⟩ := hrel
      by_cases qi : i < 26
      · have di : decide ((i : Int) < 26) = true := decide_eq_true (by omega)
        have di2 : decide (i < 26) = true := decide_eq_true (by omega)
        have c0 := HI.out.at_ qi
        have f0 := HI.out.box.fz i
        have HV : Hid (∀ c, (f (97 + (i : Int))).getD 0 = c → 0 ≤ c ∧ c ≤ M ∧ ((mvF f a z d) (97 + (i : Int))).getD 0 = (if c = 0 then none else (if z < d then exc a z d c else exc (d + 1) (a - 1) z c)).getD 0) := fun c hc => by
          have e0 : (mvF f a z d) (97 + (i : Int)) = (f (97 + (i : Int))).bind (fun c => (if z < d then exc a z d c else exc (d + 1) (a - 1) z c)) := HEq.out _
          rw [e0]
          cases p : f (97 + (i : Int)) with
          | none => rw [p] at hc; simp only [Option.getD_none] at hc; subst hc; exact ⟨by omega, HB0.out, by simp⟩
          | some y =>
            have := HB.out _ y p
            rw [p] at hc; simp only [Option.getD_some] at hc; subst hc
            refine ⟨by omega, by omega, ?_⟩
            rw [if_neg (by omega)]; rfl
        obtain ⟨c, hc⟩ : ∃ c, (f (97 + (i : Int))).getD 0 = c := ⟨_, rfl⟩
        obtain ⟨c1, c2, c3⟩ := HV.out c hc
        rw [hc] at c0
        have HCC : Hid ((f (97 + (i : Int))).getD 0 = c) := hc
        clear HV hc
        by_cases w1 : a ≤ c ∧ c ≤ z
        · have hc0 : c ≠ 0 := by omega
          rw [if_neg hc0] at c3
          have k10 : decide (c ≥ a) = true := decide_eq_true (by omega)
          have k11 : decide (a ≤ c) = true := decide_eq_true (by omega)
          have k20 : decide (c ≤ z) = true := decide_eq_true (by omega)
          have v1 : wrap64 (d + 1) = d + 1 := by unfold wrap64; omega
          have v2 : wrap64 (d + 1 + c) = d + 1 + c := by unfold wrap64; omega
          have v3 : wrap64 (d + 1 + c - a) = d + 1 + c - a := by unfold wrap64; omega
          have hval : ((mvF f a z d) (97 + (i : Int))).getD 0 = d + 1 + c - a := by rw [c3]; rw [if_neg (show ¬ z < d by omega)]; unfold exc; rw [if_neg (by omega), if_neg (by omega)]; show c - (a - 1) + (d + 1) - 1 = _; omega
          have HR : Hid (Rgo r f (mvF f a z d) (i + 1) w (wr.setCell ⟨r, i, none⟩ (.int .i64 (d + 1 + c - a)))) := HI.out.put qi hval
          clear HI HCC hval c3 HB HB0 HEq w1 hc0
          go_wp2_with fail
          exact ⟨⟨i + 1, by omega, by go_num, HR.out⟩, by simp only [intOf]; omega⟩
        · by_cases w2 : d < c ∧ c < a
          · have hc0 : c ≠ 0 := by omega
            rw [if_neg hc0] at c3
            have k10 : decide (c ≥ a) = false := decide_eq_false (by omega)
            have k11 : decide (a ≤ c) = false := decide_eq_false (by omega)
            have k30 : decide (c > d) = true := decide_eq_true (by omega)
            have k31 : decide (d < c) = true := decide_eq_true (by omega)
            have k40 : decide (c < a) = true := decide_eq_true (by omega)
            have v2 : wrap64 (c + n) = c + n := by unfold wrap64; omega
            have hval : ((mvF f a z d) (97 + (i : Int))).getD 0 = c + n := by rw [c3]; rw [if_neg (show ¬ z < d by omega)]; unfold exc; rw [if_neg (by omega), if_pos (by omega)]; show c + z - (a - 1) = _; have := HN.out; omega
            have HR : Hid (Rgo r f (mvF f a z d) (i + 1) w (wr.setCell ⟨r, i, none⟩ (.int .i64 (c + n)))) := HI.out.put qi hval
            clear HI HCC hval c3 HB HB0 HEq w1 w2 hc0
            go_wp2_with fail
            exact ⟨⟨i + 1, by omega, by go_num, HR.out⟩, by simp only [intOf]; omega⟩
          · by_cases w3 : z < c ∧ c ≤ d
            · have hc0 : c ≠ 0 := by omega
              rw [if_neg hc0] at c3
              exfalso; omega
            · have hval : ((mvF f a z d) (97 + (i : Int))).getD 0 = c := by
                rw [c3]; by_cases hz : c = 0
                · rw [if_pos hz]; simp [hz]
                · rw [if_neg hz, if_neg (show ¬ z < d by omega)]; unfold exc; rw [if_pos (by omega)]; rfl
              by_cases e1 : a ≤ c
              · have k10 : decide (c ≥ a) = true := decide_eq_true (by omega)
                have k11 : decide (a ≤ c) = true := decide_eq_true (by omega)
                have k20 : decide (c ≤ z) = false := decide_eq_false (by omega)
                have k40 : decide (c < a) = false := decide_eq_false (by omega)
                have k50 : decide (c > z) = true := decide_eq_true (by omega)
                have k51 : decide (z < c) = true := decide_eq_true (by omega)
                have k60 : decide (c ≤ d) = false := decide_eq_false (by omega)
                have k30 : decide (c > d) = true := decide_eq_true (by omega)
                have k31 : decide (d < c) = true := decide_eq_true (by omega)
                have HR : Hid (Rgo r f (mvF f a z d) (i + 1) w wr) := HI.out.stay qi (by rw [HCC.out]; exact hval)
                clear HI HCC hval c3 HB HB0 HEq w1 w2 w3 e1
                go_wp2_with fail
                exact ⟨⟨i + 1, by omega, by go_num, HR.out⟩, by simp only [intOf]; omega⟩
              · have k10 : decide (c ≥ a) = false := decide_eq_false (by omega)
                have k11 : decide (a ≤ c) = false := decide_eq_false (by omega)
                have k40 : decide (c < a) = true := decide_eq_true (by omega)
                have k30 : decide (c > d) = false := decide_eq_false (by omega)
                have k31 : decide (d < c) = false := decide_eq_false (by omega)
                have k50 : decide (c > z) = false := decide_eq_false (by omega)
                have k51 : decide (z < c) = false := decide_eq_false (by omega)
                have HR : Hid (Rgo r f (mvF f a z d) (i + 1) w wr) := HI.out.stay qi (by rw [HCC.out]; exact hval)
                clear HI HCC hval c3 HB HB0 HEq w1 w2 w3 e1
                go_wp2_with fail
                exact ⟨⟨i + 1, by omega, by go_num, HR.out⟩, by simp only [intOf]; omega⟩
      · obtain rfl : i = 26 := by omega
        have HR : Hid (Rm r (mvF f a z d) wr ∧ Fr (On r) w wr) := HD.out wr HI.out
        clear HI HB HB0 HEq HD
        go_wp2_with fail
        go_end0
        exact ⟨rfl, HR.out⟩
end
end Go.Proofs.Ytmceophmdkcgcaa
/- The document's All. -/
namespace Go.Proofs.Ytmceophmdkcgcaa
open Go.ChangeShapes Go.WideShapes Go.ChangeAt Go.RowKit Go.Maps Go.MapKept
set_option linter.unusedVariables false
set_option linter.unusedSimpArgs false
/-- All marks of the first i letters. -/
def allK (f : Mf) (i : Nat) : List (Int × Int) := (List.range i).filterMap fun (i : Nat) => (f (97 + (i : Int))).map fun c => (97 + (i : Int), c)
theorem allK_none {f : Mf} {i : Nat} (h : f (97 + (i : Int)) = none) : allK f (i + 1) = allK f i := by unfold allK; rw [List.range_succ, List.filterMap_append]; simp [h]
theorem allK_some {f : Mf} {i : Nat} {c : Int} (h : f (97 + (i : Int)) = some c) : allK f (i + 1) = allK f i ++ [(97 + (i : Int), c)] := by unfold allK; rw [List.range_succ, List.filterMap_append]; simp [h]
theorem allK_len (f : Mf) (i : Nat) : (allK f i).length ≤ i := by
  unfold allK
  have := List.length_filterMap_le (fun i : Nat => (f (97 + (i : Int))).map fun c => (97 + (i : Int), c)) (List.range i)
  simpa using this
section
variable {r : Nat} {f : Mf} {w w1 : World}
set_option maxHeartbeats 8000000 in
set_option maxRecDepth 100000 in
theorem jall_any {M : Int} (h : Rm r f w) (hB : Bd M f) : Calls Try.prog 22 #[.pointer (some ⟨r, 0, none⟩)] w fun e w' => ∃ v, e = .returned v ∧ Hid (Mls w v (allF f) w' ∧ Kp w w') := by
  obtain ⟨i9, hi9, z0, z1, z2⟩ := info_parts infoMark
  have HM : Hid (Rm r f w ∧ Bd M f) := ⟨h, hB⟩
  clear h hB
  go_enter Try.func22, Try.ntmps22
  go_wp2_with fail
  go_loopw [3, 4] (fun v3 v4 wr => ∃ (i K : Nat) (a : Option Addr) (c : Nat), i ≤ 26 ∧ K ≤ i ∧ v4 = .int .i64 i ∧ v3 = .slice a K c ∧ Hid (wr.ownsRow w.heap.size 33 2 (.slice a K c) K (mcs (allK f i)) ∧ Kp w wr ∧ (allK f i).length = K)) (fun _ v4 _ => 26 - (intOf v4).toNat)
  case atStart => exact ⟨0, 0, none, 0, by omega, Nat.le_refl _, rfl, rfl, World.ownsRow_nil _ _ _ _, Below.refl _ _, rfl⟩
  case round =>
    obtain ⟨i, K, va, vc, hi, hK, rfl, rfl, HI⟩ := hrel
    by_cases q : i < 26
    · have d1 : decide ((i : Int) < 26) = true := decide_eq_true (by omega)
      have d2 : decide (i < 26) = true := decide_eq_true (by omega)
      have c0 := kp_cell HI.out.2.1 (HM.out.1.box.at (rcs_at f q))
      cases hf : f (97 + (i : Int)) with
      | none =>
        rw [hf] at c0
        simp only [Option.getD_none] at c0
        have HX : Hid (wr.ownsRow w.heap.size 33 2 (.slice va K vc) K (mcs (allK f (i + 1))) ∧ Kp w wr ∧ (allK f (i + 1)).length = K) := by rw [allK_none hf]; exact HI.out
        clear HI hf HM
        go_wp2_with fail
        exact ⟨⟨i + 1, K, va, vc, by omega, by omega, by go_num, rfl, HX.out⟩, by simp only [intOf]; omega⟩
      | some c =>
        have hc := HM.out.2 _ c hf
        rw [hf] at c0
        simp only [Option.getD_some] at c0
        have d3 : decide (c > 0) = true := decide_eq_true (by omega)
        have d4 : decide (0 < c) = true := decide_eq_true (by omega)
        obtain ⟨bt, hbt⟩ : ∃ bt, wr.heap.size = bt := ⟨_, rfl⟩
        obtain ⟨W1, hW1⟩ : ∃ W1, wr.alloc (.cells #[.int .u8 (97 + (i : Int)), .int .i64 c] 33) = W1 := ⟨_, rfl⟩
        have HA : Hid (W1.ownsRow w.heap.size 33 2 (.slice va K vc) K (mcs (allK f i)) ∧ (∀ j u, (mc (97 + (i : Int), c))[j]? = some u → W1.cell? ((⟨bt, 0, none⟩ : Addr).add j) = some u) ∧ w.heap.size ≤ W1.heap.size ∧ W1.heap.size = bt + 1 ∧ Kp w W1) := by
          have kk := kp_alloc wr (.cells #[.int .u8 (97 + (i : Int)), .int .i64 c] 33)
          rw [hW1] at kk
          refine ⟨row_kp HI.out.1 kk, ?_, Nat.le_trans HI.out.2.1.size kk.size, by rw [← hW1, ← hbt]; exact alloc_size _ _, kp_trans HI.out.2.1 kk⟩
          intro j u hj
          rw [← hW1, ← hbt, addr_add, (Lc.new wr [.int .u8 (97 + (i : Int)), .int .i64 c] 33).cell]
          exact hj
        have HE : Hid (∀ g' cap' w2, w2.ownsRow w.heap.size 33 2 (.slice (some ⟨g', 0, none⟩) (K + 1) cap') (K + 1) (mcs (allK f i) ++ mc (97 + (i : Int), c)) → W1.grownBy w2 (Value.slice va K vc).ownBlock → w2.ownsRow w.heap.size 33 2 (.slice (some ⟨g', 0, none⟩) (K + 1) cap') (K + 1) (mcs (allK f (i + 1))) ∧ Kp w w2 ∧ (allK f (i + 1)).length = K + 1) := fun g' cap' w2 r1 r2 => by
          rw [allK_some hf]
          refine ⟨by rw [mcs_snoc]; exact r1, ?_, by rw [List.length_append, HI.out.2.2]; rfl⟩
          have := HA.out.2.2.2.2
          exact ⟨r2.os.trans this.os, r2.tape.trans this.tape, r2.output.trans this.output, Nat.le_trans this.size r2.size, fun k hk => (r2.block k (Nat.lt_of_lt_of_le hk this.size) fun e => by have := (HA.out.1.lt k e.symm).1; omega).trans (this.block k hk)⟩
        clear HI hf HM hc
        go_wp2_with (at_builtin; refine wpList_append_lies _ rfl (.tmp 16) (.tmp 27) 29 rfl w.heap.size 33 i9 _ 2 16 Try.underlying29 hi9 z0 z1 z2 rfl (by decide) (.slice va K vc) K (mcs (allK f i)) rfl HA.out.1 ⟨bt, 0, none⟩ 1 1 (mc (97 + (i : Int), c)) rfl rfl HA.out.2.1 (mc_one _) (by omega) (by unfold maxLen; omega) (by omega) HA.out.2.2.1 (bt + 1) HA.out.2.2.2.1 ?_; intro g' cap' w2 r1' r2' r3' r4'; have HI2 : Hid _ := HE.out g' cap' w2 r1' r2'; clear r1' r2' r3' r4')
        clear HA HE hW1 hbt c0
        go_roundw
        case rel => exact ⟨i + 1, K + 1, some ⟨g', 0, none⟩, cap', by omega, by omega, by go_num, rfl, HI2.out⟩
        case measure => simp only [intOf]; omega
    · obtain rfl : i = 26 := by omega
      have HX : Hid (Mls w (.slice va K vc) (allF f) wr ∧ Kp w wr) := by
        have e0 : allK f 26 = allF f := rfl
        have h1 := HI.out.1
        have h2 := HI.out.2.2
        rw [e0] at h1 h2
        exact ⟨by unfold Mls; rw [h2]; exact h1, HI.out.2.1⟩
      clear HI HM q
      go_wp2_with fail
      go_ret
      exact ⟨_, rfl, HX.out⟩
end
end Go.Proofs.Ytmceophmdkcgcaa
/- Steps of a region that draws its order. -/
namespace Go.Proofs.Ytmceophmdkcgcaa
open Go.ChangeShapes Go.WideShapes Go.ChangeAt Go.RowKit
set_option linter.unusedVariables false
set_option linter.unusedSimpArgs false
theorem takeAt {P : Program} {ops : Array Oper} {Q : Exit → Act → World → Prop} {md : Region.Mode} {S : World → Prop} (i : Nat) (dst : Option Tmp) (v : Value) {oi : Oper} {fuel : Nat} {listed : Array Bool} {a : Act} {w : World} (hi : ops[i]? = some oi) (hd : oi.dst = dst)
    (hs : Region.noSelect ops = true) (hf : Region.free md ops listed i = true) (hr : (Region.ready md ops listed).contains i = true)
    (hQ : ∀ c a w, Q (.panic c) (a.put dst v) w → Q (.panic c) a w) (hy : YieldsIf P ops S oi v a) (hS : S w)
    (h : wpAnyH P md ops Q S fuel (listed.setIfInBounds i true) (a.put dst v) w) : wpAnyH P md ops Q S (fuel + 1) listed a w := by
  subst hd
  exact wpAnyH_take hi hs hf hr hQ hy hS h
theorem run_callGo {P : Program} {f : FuncId} {fn : Func} (args : Array Value) (w : World) (hf : P.funcs[f]? = some fn) (hn : (fn.name == "runtime.NumGoroutine") = false) (hb : fn.body.isNone = false) : (callFunc f args).run P w = .ok (.enter f args) w := by
  have h1 : ¬ fn.name = "runtime.NumGoroutine" := by simpa using hn
  have h2 : ¬ fn.body = none := by intro e; rw [e] at hb; cases hb
  simp [callFunc, hf, h1, h2]
/-- The call of a Go function comes up alone. -/
theorem callAt {P : Program} {ops : Array Oper} {Q : Exit → Act → World → Prop} {md : Region.Mode} {S : World → Prop} (i : Nat) (d : Tmp) (f : FuncId) {o : Oper} {fn : Func} {fuel : Nat} {listed : Array Bool} {a : Act} {w : World} {xs : Array Operand} {ats : Array TypeId} {vals : Array Value}
    (hr : Region.ready md ops listed = [i]) (ho : ops[i]? = some o) (hop : o.op = .call { callee := .value (.func f), args := xs, argTypes := ats }) (hd : o.dst = some d) (hg : o.guard = none) (hv : xs.map a.eval = vals)
    (hf : P.funcs[f]? = some fn) (hn : (fn.name == "runtime.NumGoroutine") = false) (hb : fn.body.isNone = false)
    (h : Calls P f vals w fun e w' => ∃ v, e = .returned v ∧ S w' ∧ (S w' → wpAnyH P md ops Q S fuel (listed.setIfInBounds i true) (a.put (some d) v) w')) : wpAnyH P md ops Q S (fuel + 1) listed a w := by
  refine wpAnyH_ready hr (by simp) ?_
  refine AllReadyH.cons ho (fun K hK => ?_) AllReadyH.nil
  have hw : Region.wanted o (yielded ops a.tmps) = true := by simp [Region.wanted, hg]
  rw [if_pos hw]
  obtain ⟨dst, op, type, pos, after, guard⟩ := o
  simp only at hop hd hg
  subst hop; subst hd; subst hg
  unfold Oper.wp
  rw [execOp_call_go, show (#[] ++ xs.map a.eval ++ #[]) = vals by simp [hv], run_callGo vals w hf hn hb]
  simp only [Oper.upon]
  refine Calls.mono h ?_
  rintro e w' ⟨v, rfl, hS, hW⟩
  exact hK.out _ _ hS hW
theorem callAtG {P : Program} {ops : Array Oper} {Q : Exit → Act → World → Prop} {md : Region.Mode} {S : World → Prop} (i : Nat) (d : Tmp) (f : FuncId) {o : Oper} {fn : Func} {fuel : Nat} {listed : Array Bool} {a : Act} {w : World} {xs : Array Operand} {ats : Array TypeId} {vals : Array Value}
    (hr : Region.ready md ops listed = [i]) (ho : ops[i]? = some o) (hop : o.op = .call { callee := .value (.func f), args := xs, argTypes := ats }) (hd : o.dst = some d) (hw : Region.wanted o (yielded ops a.tmps) = true) (hv : xs.map a.eval = vals)
    (hf : P.funcs[f]? = some fn) (hn : (fn.name == "runtime.NumGoroutine") = false) (hb : fn.body.isNone = false)
    (h : Calls P f vals w fun e w' => ∃ v, e = .returned v ∧ S w' ∧ (S w' → wpAnyH P md ops Q S fuel (listed.setIfInBounds i true) (a.put (some d) v) w')) : wpAnyH P md ops Q S (fuel + 1) listed a w := by
  refine wpAnyH_ready hr (by simp) ?_
  refine AllReadyH.cons ho (fun K hK => ?_) AllReadyH.nil
  rw [if_pos hw]
  obtain ⟨dst, op, type, pos, after, guard⟩ := o
  simp only at hop hd
  subst hop; subst hd
  unfold Oper.wp
  rw [execOp_call_go, show (#[] ++ xs.map a.eval ++ #[]) = vals by simp [hv], run_callGo vals w hf hn hb]
  simp only [Oper.upon]
  refine Calls.mono h ?_
  rintro e w' ⟨v, rfl, hS, hW⟩
  exact hK.out _ _ hS hW
end Go.Proofs.Ytmceophmdkcgcaa
/- MarksDoes: the walk. -/
namespace Go.Proofs.Ytmceophmdkcgcaa
open Go.ChangeShapes Go.WideShapes Go.ChangeAt Go.RowKit Go.Maps Go.MapKept
set_option linter.unusedVariables false
set_option linter.unusedSimpArgs false
theorem Lc.ne {T T' : TypeId} {b b' : Nat} {l l' : List Value} {w : World} (h : Lc T b l w) (h' : Lc T' b' l' w) (hT : T ≠ T') : b ≠ b' := by
  rintro rfl
  unfold Lc at h h'
  rw [h] at h'
  simp only [Option.some.injEq, Obj.cells.injEq] at h'
  exact hT h'.2.1
/-- The program's marks f, the document's marks g, since the world w. -/
structure Dn (w : World) (t b r : Nat) (f g : Mf) (M : Int) (W : World) : Prop where
  mm : Mk t b f W
  rm : Rm r g W
  kp : Kp w W
  hb : w.heap.size ≤ b
  hr : w.heap.size ≤ r
  bf : Bd M f
  bg : Bd M g
section
variable {w W W1 : World} {t b r : Nat} {f g f' g' : Mf} {M M' : Int}
theorem Dn.kp_ (h : Dn w t b r f g M W) (k : Kp W W1) : Dn w t b r f g M W1 := ⟨h.mm.kp k, h.rm.kp k, kp_trans h.kp k, h.hb, h.hr, h.bf, h.bg⟩
theorem Dn.mono (h : Dn w t b r f g M W) (hM : M ≤ M') : Dn w t b r f g M' W := ⟨h.mm, h.rm, h.kp, h.hb, h.hr, h.bf.mono hM, h.bg.mono hM⟩
theorem Dn.onM (h : Dn w t b r f g M W) (hm : Mk t b f' W1) (hf : Fr (On b) W W1) (hB : Bd M f') : Dn w t b r f' g M W1 :=
  ⟨hm, h.rm.fr hf (h.mm.map.ne h.rm.box), Fr.kpn (n := 0) h.kp hf h.hb, h.hb, h.hr, hB, h.bg⟩
theorem Dn.onR (h : Dn w t b r f g M W) (hm : Rm r g' W1) (hf : Fr (On r) W W1) (hB : Bd M g') : Dn w t b r f g' M W1 :=
  ⟨h.mm.fr hf (fun q => h.mm.box.ne h.rm.box (by decide) q) (fun q => h.mm.map.ne h.rm.box q.symm), hm, Fr.kpn (n := 0) h.kp hf h.hr, h.hb, h.hr, h.bf, hB⟩
/-- and the call that is under way. -/
structure Do (w : World) (t b r : Nat) (f g : Mf) (M : Int) (ob : Nat) (cs : List Value) (W : World) : Prop where
  dn : Dn w t b r f g M W
  op : Lc 42 ob cs W
theorem Do.kp {ob : Nat} {cs : List Value} (h : Do w t b r f g M ob cs W) (k : Kp W W1) : Do w t b r f g M ob cs W1 := ⟨h.dn.kp_ k, h.op.kp k⟩
theorem Do.onM {ob : Nat} {cs : List Value} (h : Do w t b r f g M ob cs W) (hm : Mk t b f' W1) (hf : Fr (On b) W W1) (hB : Bd M f') : Do w t b r f' g M ob cs W1 := ⟨h.dn.onM hm hf hB, h.op.fr hf (h.dn.mm.map.ne h.op)⟩
theorem Do.onR {ob : Nat} {cs : List Value} (h : Do w t b r f g M ob cs W) (hm : Rm r g' W1) (hf : Fr (On r) W W1) (hB : Bd M g') : Do w t b r f g' M ob cs W1 := ⟨h.dn.onR hm hf hB, h.op.fr hf (h.op.ne h.dn.rm.box (by decide))⟩
end
section
variable {w W : World} {t b r : Nat} {f : Mf} {M : Int}
theorem dn_all (h : Dn w t b r f f M W) : Calls Try.prog 11 #[.pointer (some ⟨t, 0, none⟩)] W fun e w' => ∃ v, e = .returned v ∧ Hid (Rdm v (allF f) w' ∧ Dn w t b r f f M w') := by
  refine (all_any h.mm).mono ?_
  rintro e w' ⟨v, he, HH⟩
  exact ⟨v, he, HH.out.1.rdm, h.kp_ HH.out.2⟩
theorem dn_jall {v1 : Value} (h : Rdm v1 (allF f) W ∧ Dn w t b r f f M W) : Calls Try.prog 22 #[.pointer (some ⟨r, 0, none⟩)] W fun e w' => ∃ v, e = .returned v ∧ Hid (Rdm v1 (allF f) w' ∧ Rdm v (allF f) w' ∧ Dn w t b r f f M w') := by
  refine (jall_any h.2.rm h.2.bg).mono ?_
  rintro e w' ⟨v, he, HH⟩
  exact ⟨v, he, h.1.kp HH.out.2, HH.out.1.rdm, h.2.kp_ HH.out.2⟩
theorem dn_same {v1 v2 : Value} (hM : M ≤ 1099511627776) (h : Rdm v1 (allF f) W ∧ Rdm v2 (allF f) W ∧ Dn w t b r f f M W) : Calls Try.prog 21 #[v1, v2] W fun e w' => e = .returned (.bool true) ∧ Hid (Dn w t b r f f M w') := by
  refine (jsame_any (all_fine h.2.2.mm.dom h.2.2.bf hM) h.1 h.2.1).mono ?_
  rintro e w' ⟨he, hk⟩
  exact ⟨he, h.2.2.kp_ hk⟩
end
section
variable {w W : World} {t b r ob : Nat} {f g : Mf} {M : Int} {cs : List Value}
theorem do_splice (h : Do w t b r f g M ob cs W) (hM : M + 2147483647 ≤ 1099511627776) (x y z : Int) : Calls Try.prog 15 #[.pointer (some ⟨t, 0, none⟩), .int .i64 x, .int .i64 y, .int .i64 z] W fun e w' => e = .returned (.tuple #[]) ∧ Hid (Do w t b r (spF f x y z) g (M + 2147483647) ob cs w') := by
  refine (splice_any h.dn.mm h.dn.bf (by omega) x y z).mono ?_
  rintro e w' ⟨he, hm, hf⟩
  exact ⟨he, Do.onM ⟨h.dn.mono (by omega), h.op⟩ hm hf (spF_bd h.dn.bf _ _ _)⟩
theorem do_jsplice {x y z : Int} (h : Do w t b r (spF f x y z) f (M + 2147483647) ob cs W) (h0 : Bd M f) (hM0 : 0 ≤ M) (hM : M + 2147483647 ≤ 1099511627776) : Calls Try.prog 16 #[.pointer (some ⟨r, 0, none⟩), .int .i64 x, .int .i64 y, .int .i64 z] W fun e w' => e = .returned (.tuple #[]) ∧ Hid (Do w t b r (spF f x y z) (spF f x y z) (M + 2147483647) ob cs w') := by
  refine (jsplice_any h.dn.rm h0 (by omega) hM0 x y z).mono ?_
  rintro e w' ⟨he, hm, hf⟩
  exact ⟨he, h.onR hm hf (spF_bd h0 _ _ _)⟩
theorem do_move (h : Do w t b r f g M ob cs W) (hM0 : 2147483647 ≤ M) (hM : M + 2147483647 ≤ 1099511627776) (x y z : Int) : Calls Try.prog 12 #[.pointer (some ⟨t, 0, none⟩), .int .i64 x, .int .i64 y, .int .i64 z] W fun e w' => e = .returned (.tuple #[]) ∧ Hid (Do w t b r (mvF f x y z) g M ob cs w') := by
  refine (move_any h.dn.mm h.dn.bf (by omega) x y z).mono ?_
  rintro e w' ⟨he, hm, hf⟩
  exact ⟨he, h.onM hm hf (mvF_bd h.dn.bf hM0 _ _ _)⟩
theorem do_jmove {x y z : Int} (h : Do w t b r (mvF f x y z) f M ob cs W) (hM0 : 2147483647 ≤ M) (hM : M + 2147483647 ≤ 1099511627776) : Calls Try.prog 17 #[.pointer (some ⟨r, 0, none⟩), .int .i64 x, .int .i64 y, .int .i64 z] W fun e w' => e = .returned (.tuple #[]) ∧ Hid (Do w t b r (mvF f x y z) (mvF f x y z) M ob cs w') := by
  refine (jmove_any h.dn.rm h.dn.bg (by omega) (by omega) x y z).mono ?_
  rintro e w' ⟨he, hm, hf⟩
  exact ⟨he, h.onR hm hf (mvF_bd h.dn.bg hM0 _ _ _)⟩
theorem do_set (h : Do w t b r f g M ob cs W) (hM0 : 2147483647 ≤ M) {x : Nat} (hx : x < 256) (y : Int) : Calls Try.prog 10 #[.pointer (some ⟨t, 0, none⟩), .int .u8 x, .int .i64 y] W fun e w' => e = .returned (.int .u16 (setE x y)) ∧ Hid (Do w t b r (setF f x y) g M ob cs w') := by
  refine (set_any h.dn.mm (by omega) (by omega) y).mono ?_
  rintro e w' ⟨he, hm, hf⟩
  exact ⟨he, h.onM hm hf (setF_bd h.dn.bf hM0 _ _)⟩
theorem do_jset {x : Nat} {y : Int} (h : Do w t b r (setF f x y) f M ob cs W) (hM0 : 2147483647 ≤ M) (hx : x < 256) : Calls Try.prog 20 #[.pointer (some ⟨r, 0, none⟩), .int .u8 x, .int .i64 y] W fun e w' => e = .returned (.int .i64 (setE x y)) ∧ Hid (Do w t b r (setF f x y) (setF f x y) M ob cs w') := by
  refine (jset_any h.dn.rm hx y).mono ?_
  rintro e w' ⟨he, hm, hf⟩
  exact ⟨he, h.onR hm hf (setF_bd h.dn.bg hM0 _ _)⟩
theorem do_get (h : Do w t b r f f M ob cs W) {x : Nat} (hx : x < 256) : Calls Try.prog 13 #[.pointer (some ⟨t, 0, none⟩), .int .u8 x] W fun e w' => e = .returned (.tuple #[.int .i64 ((f x).getD 0), .int .u16 (if (f x).isSome then 0 else 100)]) ∧ Hid (Do w t b r f f M ob cs w') := by
  refine (get_any h.dn.mm (by omega) (by omega)).mono ?_
  rintro e w' ⟨he, rfl⟩
  exact ⟨he, h⟩
theorem do_jget (h : Do w t b r f f M ob cs W) {x : Nat} (hx : x < 256) : Calls Try.prog 18 #[.pointer (some ⟨r, 0, none⟩), .int .u8 x] W fun e w' => e = .returned (.tuple #[.int .i64 ((f x).getD 0), .int .i64 (if (f x).isSome then 0 else 100)]) ∧ Hid (Do w t b r f f M ob cs w') := by
  refine (jget_any h.dn.rm h.dn.bg hx).mono ?_
  rintro e w' ⟨he, rfl⟩
  exact ⟨he, h⟩
theorem do_copy (h : Do w t b r f f M ob cs W) : Calls Try.prog 19 #[.pointer (some ⟨t, 0, none⟩)] W fun e w' => ∃ t' b', e = .returned (.pointer (some ⟨t', 0, none⟩)) ∧ Hid (Do w t' b' r f f M ob cs w') := by
  refine (copy_any h.dn.mm).mono ?_
  rintro e w' ⟨t', b', he, hm, hk, ht', hb'⟩
  have := h.dn.kp.size
  exact ⟨t', b', he, ⟨hm, h.dn.rm.kp hk, kp_trans h.dn.kp hk, by omega, h.dn.hr, h.dn.bf, h.dn.bg⟩, h.op.kp hk⟩
end
end Go.Proofs.Ytmceophmdkcgcaa
/- MarksDoes: the walk. -/
namespace Go.Proofs.Ytmceophmdkcgcaa
open Go.ChangeShapes Go.WideShapes Go.ChangeAt Go.RowKit Go.Maps Go.MapKept
set_option linter.unusedVariables false
set_option linter.unusedSimpArgs false
set_option maxHeartbeats 32000000 in
set_option maxRecDepth 100000 in
theorem does_walk {v : Value} {l : List Op5} {w : World} (h : Opl v l w) (hok : ∀ t ∈ l, t.ok) : Calls Try.prog 5 #[v] w fun e w' => e = .returned (.bool true) ∧ Kp w w' := by
  obtain ⟨va, cap, rfl, k1, k2, k3⟩ := h.at_
  obtain ⟨N, hN⟩ : ∃ N, l.length = N := ⟨_, rfl⟩
  have HC : Hid (∀ i, i < N → ∃ B o kd nm a b0 c, kd < 256 ∧ nm < 256 ∧ va = some ⟨B, o, none⟩ ∧ w.cell? ⟨B, o + i * 5, none⟩ = some (.int .u8 ((kd : Nat) : Int)) ∧ w.cell? ⟨B, o + i * 5 + 1, none⟩ = some (.int .u8 ((nm : Nat) : Int)) ∧ w.cell? ⟨B, o + i * 5 + 2, none⟩ = some (.int .i64 a) ∧ w.cell? ⟨B, o + i * 5 + 3, none⟩ = some (.int .i64 b0) ∧ w.cell? ⟨B, o + i * 5 + 4, none⟩ = some (.int .i64 c)) := fun i hi => by
    obtain ⟨B, o, e, c0, c1, c2, c3, c4⟩ := k3 i (by omega)
    have ho := hok _ (List.getElem_mem (by omega : i < l.length))
    exact ⟨B, o, _, _, _, _, _, ho.kd, ho.nm, e, c0, c1, c2, c3, c4⟩
  rw [hN] at k1 ⊢
  unfold maxLen at k2
  clear k3 hN h hok
  by_cases h60 : 100 < N
  · have d1 : decide ((N : Int) > 100) = true := decide_eq_true (by omega)
    have d2 : decide ((100 : Int) < (N : Int)) = true := decide_eq_true (by omega)
    have d3 : decide (100 < N) = true := decide_eq_true (by omega)
    clear HC h60
    go_enter Try.func5, Try.ntmps5
    go_wp2_with fail
    refine Calls.mono (kknown_any w) ?_
    rintro e w2 ⟨rfl, kk⟩
    have HK : Hid (Kp w w2) := kk
    clear kk
    go_wp2_with fail
    go_ret
    exact ⟨rfl, HK.out⟩
  · have d1 : decide ((N : Int) > 100) = false := decide_eq_false (by omega)
    have d2 : decide ((100 : Int) < (N : Int)) = false := decide_eq_false (by omega)
    have d3 : decide (100 < N) = false := decide_eq_false (by omega)
    have h60' : N ≤ 100 := by omega
    clear h60
    go_enter Try.func5, Try.ntmps5
    go_wp2_with fail
    refine Calls.mono (kknown_any w) ?_
    rintro e w2 ⟨rfl, kk⟩
    have HK : Hid (Kp w w2) := kk
    clear kk
    go_wp2_with fail
    refine Calls.mono (new_any w2) ?_
    rintro e w3 ⟨t0, b0, rfl, h3, k3, ht, hb⟩
    have H3 : Hid (Mk t0 b0 (fun _ => none) w3 ∧ Kp w w3 ∧ w.heap.size ≤ b0) := ⟨h3, kp_trans HK.out k3, by have := HK.out.size; omega⟩
    clear h3 k3 ht hb HK
    go_wp2_with fail
    refine Calls.mono (jnew_any w3) ?_
    rintro e w4 ⟨r, rfl, h4, k4, hr⟩
    have H4 : Hid (Dn w t0 b0 r (fun _ => none) (fun _ => none) 2147483647 w4) := ⟨H3.out.1.kp k4, h4, kp_trans H3.out.2.1 k4, H3.out.2.2, by have := H3.out.2.1.size; omega, bd_none _, bd_none _⟩
    clear h4 k4 hr H3
    go_wp2_with fail
    go_loopw [3, 5] (fun v3 v5 wr => ∃ (i t b : Nat) (f : Mf) (M : Int), i ≤ N ∧ v5 = .int .i64 i ∧ v3 = .pointer (some ⟨t, 0, none⟩) ∧ Hid (M = 2147483647 * ((i : Int) + 1) ∧ Dn w t b r f f M wr)) (fun _ v5 _ => N - (intOf v5).toNat)
    case atStart => exact ⟨0, t0, b0, _, 2147483647, Nat.zero_le _, rfl, rfl, by omega, H4.out⟩
    case round =>
      obtain ⟨i, t, b, f, M, hi, rfl, rfl, HI⟩ := hrel
      clear H4
      by_cases hlt : i < N
      · have g1 : decide ((i : Int) < (N : Int)) = true := decide_eq_true (by omega)
        have g2 : decide (i < N) = true := decide_eq_true (by omega)
        obtain ⟨B, o, kd, nm, a, b0, c, hkd, hnm, rfl, e0, e1, e2, e3, e4⟩ := HC.out i hlt
        replace e0 := kp_cell HI.out.2.kp e0
        replace e1 := kp_cell HI.out.2.kp e1
        replace e2 := kp_cell HI.out.2.kp e2
        replace e3 := kp_cell HI.out.2.kp e3
        replace e4 := kp_cell HI.out.2.kp e4
        have HM : Hid (M = 2147483647 * ((i : Int) + 1) ∧ 2147483647 ≤ M ∧ M + 2147483647 ≤ 1099511627776) := ⟨HI.out.1, by have := HI.out.1; omega, by have := HI.out.1; omega⟩
        obtain ⟨K, hK⟩ : ∃ K, kd % 8 = K := ⟨_, rfl⟩
        have hK8 : K < 8 := by omega
        have u1 : Int.tmod (kd : Int) 8 = (K : Int) := by rw [Int.tmod_eq_emod_of_nonneg (by omega)]; omega
        clear HC
        rcases (by omega : K = 0 ∨ K = 1 ∨ K = 2 ∨ K = 3 ∨ K = 4 ∨ K = 5 ∨ K = 6 ∨ K = 7) with rfl | rfl | rfl | rfl | rfl | rfl | rfl | rfl
        · go_wp2_with fail

          have HD : Hid (Do w t b r f f M wr.heap.size [.int .u8 (kd : Int), .int .u8 (nm : Int), .int .i64 a, .int .i64 b0, .int .i64 c] (wr.alloc (.cells #[.int .u8 (kd : Int), .int .u8 (nm : Int), .int .i64 a, .int .i64 b0, .int .i64 c] 42))) := ⟨HI.out.2.kp_ (kp_alloc _ _), Lc.new wr _ _⟩
          clear HI e0 e1 e2 e3 e4

          obtain ⟨E, hE, hE0, hE1⟩ : ∃ E, setE nm a = E ∧ 0 ≤ E ∧ E ≤ 100 := ⟨_, rfl, by unfold setE; split; omega; split <;> omega, by unfold setE; split; omega; split <;> omega⟩
          have HSG := fun W (q : Do w t b r f f M wr.heap.size [.int .u8 (kd : Int), .int .u8 (nm : Int), .int .i64 a, .int .i64 b0, .int .i64 c] W) => do_set q HM.out.2.1 hnm a
          have HSJ := fun W (q : Do w t b r (setF f nm a) f M wr.heap.size [.int .u8 (kd : Int), .int .u8 (nm : Int), .int .i64 a, .int .i64 b0, .int .i64 c] W) => do_jset q HM.out.2.1 hnm
          rw [hE] at HSG HSJ
          have HGG : Hid _ := HSG
          have HJJ : Hid _ := HSJ
          have uE : wrap64 E = E := by unfold wrap64; omega
          clear HSG HSJ hE
          refine wp_region_noPanic ?_
          refine wp_region_held_drew (S := fun z => z.cell? ⟨wr.heap.size, 1, none⟩ = some (.int .u8 (nm : Int)) ∧ z.cell? ⟨wr.heap.size, 2, none⟩ = some (.int .i64 a)) (by kernel_rfl) (⟨(HD.out.kp (kp_drew _)).op.at (j := 1) rfl, (HD.out.kp (kp_drew _)).op.at (j := 2) rfl⟩) (fun hHeld => ?_)
          refine takeAt 0 (some 37) ?_ rfl rfl (by kernel_rfl) (by kernel_rfl) (by kernel_rfl) (fun _ _ _ h => h) (Or.inl ⟨by rfl, ?_⟩) hHeld ?_
          rotate_left
          · intro w hSw
            go_simp <;> with_reducible rfl
          try simp only [Act.put, List.setIfInBounds_toArray, List.set_cons_zero, List.set_cons_succ]
          refine takeAt 1 (some 38) ?_ rfl rfl (by kernel_rfl) (by kernel_rfl) (by kernel_rfl) (fun _ _ _ h => h) (Or.inl ⟨by rfl, ?_⟩) hHeld ?_
          rotate_left
          · intro w hSw
            go_simp <;> with_reducible rfl
          try simp only [Act.put, List.setIfInBounds_toArray, List.set_cons_zero, List.set_cons_succ]
          refine takeAt 2 (some 39) ?_ rfl rfl (by kernel_rfl) (by kernel_rfl) (by kernel_rfl) (fun _ _ _ h => h) (Or.inl ⟨by rfl, ?_⟩) hHeld ?_
          rotate_left
          · intro w hSw
            go_simp <;> with_reducible rfl
          try simp only [Act.put, List.setIfInBounds_toArray, List.set_cons_zero, List.set_cons_succ]
          refine takeAt 3 (some 40) ?_ rfl rfl (by kernel_rfl) (by kernel_rfl) (by kernel_rfl) (fun _ _ _ h => h) (Or.inl ⟨by rfl, ?_⟩) hHeld ?_
          rotate_left
          · intro w hSw
            go_simp <;> with_reducible rfl
          try simp only [Act.put, List.setIfInBounds_toArray, List.set_cons_zero, List.set_cons_succ]
          refine takeAt 4 (some 41) ?_ rfl rfl (by kernel_rfl) (by kernel_rfl) (by kernel_rfl) (fun _ _ _ h => h) (Or.inl ⟨by rfl, ?_⟩) hHeld ?_
          rotate_left
          · intro w hSw
            go_simp <;> with_reducible rfl
          try simp only [Act.put, List.setIfInBounds_toArray, List.set_cons_zero, List.set_cons_succ]
          refine takeAt 7 (some 44) ?_ rfl rfl (by kernel_rfl) (by kernel_rfl) (by kernel_rfl) (fun _ _ _ h => h) (Or.inl ⟨by rfl, ?_⟩) hHeld ?_
          rotate_left
          · intro w hSw
            go_simp <;> with_reducible rfl
          try simp only [Act.put, List.setIfInBounds_toArray, List.set_cons_zero, List.set_cons_succ]
          refine takeAt 8 (some 45) ?_ rfl rfl (by kernel_rfl) (by kernel_rfl) (by kernel_rfl) (fun _ _ _ h => h) (Or.inl ⟨by rfl, ?_⟩) hHeld ?_
          rotate_left
          · intro w hSw
            go_simp <;> with_reducible rfl
          try simp only [Act.put, List.setIfInBounds_toArray, List.set_cons_zero, List.set_cons_succ]
          refine takeAt 9 (some 46) ?_ rfl rfl (by kernel_rfl) (by kernel_rfl) (by kernel_rfl) (fun _ _ _ h => h) (Or.inl ⟨by rfl, ?_⟩) hHeld ?_
          rotate_left
          · intro w hSw
            go_simp <;> with_reducible rfl
          try simp only [Act.put, List.setIfInBounds_toArray, List.set_cons_zero, List.set_cons_succ]
          refine takeAt 10 (some 47) ?_ rfl rfl (by kernel_rfl) (by kernel_rfl) (by kernel_rfl) (fun _ _ _ h => h) (Or.inl ⟨by rfl, ?_⟩) hHeld ?_
          rotate_left
          · intro w hSw
            go_simp <;> with_reducible rfl
          try simp only [Act.put, List.setIfInBounds_toArray, List.set_cons_zero, List.set_cons_succ]
          refine takeAt 11 (some 48) ?_ rfl rfl (by kernel_rfl) (by kernel_rfl) (by kernel_rfl) (fun _ _ _ h => h) (Or.inl ⟨by rfl, ?_⟩) hHeld ?_
          rotate_left
          · intro w hSw
            go_simp <;> with_reducible rfl
          try simp only [Act.put, List.setIfInBounds_toArray, List.set_cons_zero, List.set_cons_succ]
          refine callAt 5 42 10 (vals := #[.pointer (some ⟨t, 0, none⟩), .int .u8 (nm : Int), .int .i64 a]) (by kernel_rfl) rfl rfl rfl rfl (by simp [Act.eval]) Try.func10 (by kernel_rfl) (by kernel_rfl) ?_
          refine Calls.mono (HGG.out _ (HD.out.kp (kp_drew _))) ?_
          rintro e w5 ⟨rfl, H5⟩
          refine ⟨_, rfl, ⟨H5.out.op.at (j := 1) rfl, H5.out.op.at (j := 2) rfl⟩, fun hHeld => ?_⟩
          try simp only [Act.put, List.setIfInBounds_toArray, List.set_cons_zero, List.set_cons_succ]
          refine takeAt 6 (some 43) ?_ rfl rfl (by kernel_rfl) (by kernel_rfl) (by kernel_rfl) (fun _ _ _ h => h) (Or.inl ⟨by rfl, ?_⟩) hHeld ?_
          rotate_left
          · intro w hSw
            go_simp <;> with_reducible rfl
          try simp only [Act.put, List.setIfInBounds_toArray, List.set_cons_zero, List.set_cons_succ]
          refine callAt 12 49 20 (vals := #[.pointer (some ⟨r, 0, none⟩), .int .u8 (nm : Int), .int .i64 a]) (by kernel_rfl) rfl rfl rfl rfl (by simp [Act.eval]) Try.func20 (by kernel_rfl) (by kernel_rfl) ?_
          refine Calls.mono (HJJ.out _ H5.out) ?_
          rintro e w6 ⟨rfl, H6⟩
          refine ⟨_, rfl, ⟨H6.out.op.at (j := 1) rfl, H6.out.op.at (j := 2) rfl⟩, fun hHeld => ?_⟩
          try simp only [Act.put, List.setIfInBounds_toArray, List.set_cons_zero, List.set_cons_succ]
          refine takeAt 13 (some 50) ?_ rfl rfl (by kernel_rfl) (by kernel_rfl) (by kernel_rfl) (fun _ _ _ h => h) (Or.inl ⟨by rfl, ?_⟩) hHeld ?_
          rotate_left
          · intro w hSw
            go_simp <;> with_reducible rfl
          try simp only [Act.put, List.setIfInBounds_toArray, List.set_cons_zero, List.set_cons_succ]
          refine takeAt 14 (some 7) ?_ rfl rfl (by kernel_rfl) (by kernel_rfl) (by kernel_rfl) (fun _ _ _ h => h) (Or.inl ⟨by rfl, ?_⟩) hHeld ?_
          rotate_left
          · intro w hSw
            go_simp <;> with_reducible rfl
          try simp only [Act.put, List.setIfInBounds_toArray, List.set_cons_zero, List.set_cons_succ]
          refine wpAnyH_done (by kernel_rfl) ?_ _
          refine NoPanic.normal ?_
          have HX : Hid (M + 2147483647 = 2147483647 * (((i + 1 : Nat) : Int) + 1) ∧ M + 2147483647 ≤ 1099511627776 ∧ Dn w t b r (setF f nm a) (setF f nm a) (M + 2147483647) w6) := ⟨by have := HM.out.1; omega, HM.out.2.2, H6.out.dn.mono (by omega)⟩

          clear HD H5 H6 hHeld HGG HJJ HM
          go_wp2_with fail
          refine Calls.mono (dn_all HX.out.2.2) ?_
          rintro e wa ⟨v1, rfl, HA⟩
          have HXM : Hid _ := HX.out.1
          have HXN : Hid _ := HX.out.2.1
          clear HX
          go_wp2_with fail
          refine Calls.mono (dn_jall HA.out) ?_
          rintro e wb ⟨v2, rfl, HB⟩
          clear HA
          go_wp2_with fail
          refine Calls.mono (dn_same HXN.out HB.out) ?_
          rintro e wc ⟨rfl, HZ⟩
          clear HB
          go_wp2_with fail
          exact ⟨⟨i + 1, t, b, _, M + 2147483647, by omega, by go_num, rfl, HXM.out, HZ.out⟩, by simp only [intOf]; omega⟩
        · go_wp2_with fail

          have HD : Hid (Do w t b r f f M wr.heap.size [.int .u8 (kd : Int), .int .u8 (nm : Int), .int .i64 a, .int .i64 b0, .int .i64 c] (wr.alloc (.cells #[.int .u8 (kd : Int), .int .u8 (nm : Int), .int .i64 a, .int .i64 b0, .int .i64 c] 42))) := ⟨HI.out.2.kp_ (kp_alloc _ _), Lc.new wr _ _⟩
          clear HI e0 e1 e2 e3 e4

          obtain ⟨E, hE, hE0, hE1⟩ : ∃ E, setE nm a = E ∧ 0 ≤ E ∧ E ≤ 100 := ⟨_, rfl, by unfold setE; split; omega; split <;> omega, by unfold setE; split; omega; split <;> omega⟩
          have HSG := fun W (q : Do w t b r f f M wr.heap.size [.int .u8 (kd : Int), .int .u8 (nm : Int), .int .i64 a, .int .i64 b0, .int .i64 c] W) => do_set q HM.out.2.1 hnm a
          have HSJ := fun W (q : Do w t b r (setF f nm a) f M wr.heap.size [.int .u8 (kd : Int), .int .u8 (nm : Int), .int .i64 a, .int .i64 b0, .int .i64 c] W) => do_jset q HM.out.2.1 hnm
          rw [hE] at HSG HSJ
          have HGG : Hid _ := HSG
          have HJJ : Hid _ := HSJ
          have uE : wrap64 E = E := by unfold wrap64; omega
          clear HSG HSJ hE
          refine wp_region_noPanic ?_
          refine wp_region_held_drew (S := fun z => z.cell? ⟨wr.heap.size, 1, none⟩ = some (.int .u8 (nm : Int)) ∧ z.cell? ⟨wr.heap.size, 2, none⟩ = some (.int .i64 a)) (by kernel_rfl) (⟨(HD.out.kp (kp_drew _)).op.at (j := 1) rfl, (HD.out.kp (kp_drew _)).op.at (j := 2) rfl⟩) (fun hHeld => ?_)
          refine takeAt 0 (some 37) ?_ rfl rfl (by kernel_rfl) (by kernel_rfl) (by kernel_rfl) (fun _ _ _ h => h) (Or.inl ⟨by rfl, ?_⟩) hHeld ?_
          rotate_left
          · intro w hSw
            go_simp <;> with_reducible rfl
          try simp only [Act.put, List.setIfInBounds_toArray, List.set_cons_zero, List.set_cons_succ]
          refine takeAt 1 (some 38) ?_ rfl rfl (by kernel_rfl) (by kernel_rfl) (by kernel_rfl) (fun _ _ _ h => h) (Or.inl ⟨by rfl, ?_⟩) hHeld ?_
          rotate_left
          · intro w hSw
            go_simp <;> with_reducible rfl
          try simp only [Act.put, List.setIfInBounds_toArray, List.set_cons_zero, List.set_cons_succ]
          refine takeAt 2 (some 39) ?_ rfl rfl (by kernel_rfl) (by kernel_rfl) (by kernel_rfl) (fun _ _ _ h => h) (Or.inl ⟨by rfl, ?_⟩) hHeld ?_
          rotate_left
          · intro w hSw
            go_simp <;> with_reducible rfl
          try simp only [Act.put, List.setIfInBounds_toArray, List.set_cons_zero, List.set_cons_succ]
          refine takeAt 3 (some 40) ?_ rfl rfl (by kernel_rfl) (by kernel_rfl) (by kernel_rfl) (fun _ _ _ h => h) (Or.inl ⟨by rfl, ?_⟩) hHeld ?_
          rotate_left
          · intro w hSw
            go_simp <;> with_reducible rfl
          try simp only [Act.put, List.setIfInBounds_toArray, List.set_cons_zero, List.set_cons_succ]
          refine takeAt 4 (some 41) ?_ rfl rfl (by kernel_rfl) (by kernel_rfl) (by kernel_rfl) (fun _ _ _ h => h) (Or.inl ⟨by rfl, ?_⟩) hHeld ?_
          rotate_left
          · intro w hSw
            go_simp <;> with_reducible rfl
          try simp only [Act.put, List.setIfInBounds_toArray, List.set_cons_zero, List.set_cons_succ]
          refine takeAt 7 (some 44) ?_ rfl rfl (by kernel_rfl) (by kernel_rfl) (by kernel_rfl) (fun _ _ _ h => h) (Or.inl ⟨by rfl, ?_⟩) hHeld ?_
          rotate_left
          · intro w hSw
            go_simp <;> with_reducible rfl
          try simp only [Act.put, List.setIfInBounds_toArray, List.set_cons_zero, List.set_cons_succ]
          refine takeAt 8 (some 45) ?_ rfl rfl (by kernel_rfl) (by kernel_rfl) (by kernel_rfl) (fun _ _ _ h => h) (Or.inl ⟨by rfl, ?_⟩) hHeld ?_
          rotate_left
          · intro w hSw
            go_simp <;> with_reducible rfl
          try simp only [Act.put, List.setIfInBounds_toArray, List.set_cons_zero, List.set_cons_succ]
          refine takeAt 9 (some 46) ?_ rfl rfl (by kernel_rfl) (by kernel_rfl) (by kernel_rfl) (fun _ _ _ h => h) (Or.inl ⟨by rfl, ?_⟩) hHeld ?_
          rotate_left
          · intro w hSw
            go_simp <;> with_reducible rfl
          try simp only [Act.put, List.setIfInBounds_toArray, List.set_cons_zero, List.set_cons_succ]
          refine takeAt 10 (some 47) ?_ rfl rfl (by kernel_rfl) (by kernel_rfl) (by kernel_rfl) (fun _ _ _ h => h) (Or.inl ⟨by rfl, ?_⟩) hHeld ?_
          rotate_left
          · intro w hSw
            go_simp <;> with_reducible rfl
          try simp only [Act.put, List.setIfInBounds_toArray, List.set_cons_zero, List.set_cons_succ]
          refine takeAt 11 (some 48) ?_ rfl rfl (by kernel_rfl) (by kernel_rfl) (by kernel_rfl) (fun _ _ _ h => h) (Or.inl ⟨by rfl, ?_⟩) hHeld ?_
          rotate_left
          · intro w hSw
            go_simp <;> with_reducible rfl
          try simp only [Act.put, List.setIfInBounds_toArray, List.set_cons_zero, List.set_cons_succ]
          refine callAt 5 42 10 (vals := #[.pointer (some ⟨t, 0, none⟩), .int .u8 (nm : Int), .int .i64 a]) (by kernel_rfl) rfl rfl rfl rfl (by simp [Act.eval]) Try.func10 (by kernel_rfl) (by kernel_rfl) ?_
          refine Calls.mono (HGG.out _ (HD.out.kp (kp_drew _))) ?_
          rintro e w5 ⟨rfl, H5⟩
          refine ⟨_, rfl, ⟨H5.out.op.at (j := 1) rfl, H5.out.op.at (j := 2) rfl⟩, fun hHeld => ?_⟩
          try simp only [Act.put, List.setIfInBounds_toArray, List.set_cons_zero, List.set_cons_succ]
          refine takeAt 6 (some 43) ?_ rfl rfl (by kernel_rfl) (by kernel_rfl) (by kernel_rfl) (fun _ _ _ h => h) (Or.inl ⟨by rfl, ?_⟩) hHeld ?_
          rotate_left
          · intro w hSw
            go_simp <;> with_reducible rfl
          try simp only [Act.put, List.setIfInBounds_toArray, List.set_cons_zero, List.set_cons_succ]
          refine callAt 12 49 20 (vals := #[.pointer (some ⟨r, 0, none⟩), .int .u8 (nm : Int), .int .i64 a]) (by kernel_rfl) rfl rfl rfl rfl (by simp [Act.eval]) Try.func20 (by kernel_rfl) (by kernel_rfl) ?_
          refine Calls.mono (HJJ.out _ H5.out) ?_
          rintro e w6 ⟨rfl, H6⟩
          refine ⟨_, rfl, ⟨H6.out.op.at (j := 1) rfl, H6.out.op.at (j := 2) rfl⟩, fun hHeld => ?_⟩
          try simp only [Act.put, List.setIfInBounds_toArray, List.set_cons_zero, List.set_cons_succ]
          refine takeAt 13 (some 50) ?_ rfl rfl (by kernel_rfl) (by kernel_rfl) (by kernel_rfl) (fun _ _ _ h => h) (Or.inl ⟨by rfl, ?_⟩) hHeld ?_
          rotate_left
          · intro w hSw
            go_simp <;> with_reducible rfl
          try simp only [Act.put, List.setIfInBounds_toArray, List.set_cons_zero, List.set_cons_succ]
          refine takeAt 14 (some 7) ?_ rfl rfl (by kernel_rfl) (by kernel_rfl) (by kernel_rfl) (fun _ _ _ h => h) (Or.inl ⟨by rfl, ?_⟩) hHeld ?_
          rotate_left
          · intro w hSw
            go_simp <;> with_reducible rfl
          try simp only [Act.put, List.setIfInBounds_toArray, List.set_cons_zero, List.set_cons_succ]
          refine wpAnyH_done (by kernel_rfl) ?_ _
          refine NoPanic.normal ?_
          have HX : Hid (M + 2147483647 = 2147483647 * (((i + 1 : Nat) : Int) + 1) ∧ M + 2147483647 ≤ 1099511627776 ∧ Dn w t b r (setF f nm a) (setF f nm a) (M + 2147483647) w6) := ⟨by have := HM.out.1; omega, HM.out.2.2, H6.out.dn.mono (by omega)⟩

          clear HD H5 H6 hHeld HGG HJJ HM
          go_wp2_with fail
          refine Calls.mono (dn_all HX.out.2.2) ?_
          rintro e wa ⟨v1, rfl, HA⟩
          have HXM : Hid _ := HX.out.1
          have HXN : Hid _ := HX.out.2.1
          clear HX
          go_wp2_with fail
          refine Calls.mono (dn_jall HA.out) ?_
          rintro e wb ⟨v2, rfl, HB⟩
          clear HA
          go_wp2_with fail
          refine Calls.mono (dn_same HXN.out HB.out) ?_
          rintro e wc ⟨rfl, HZ⟩
          clear HB
          go_wp2_with fail
          exact ⟨⟨i + 1, t, b, _, M + 2147483647, by omega, by go_num, rfl, HXM.out, HZ.out⟩, by simp only [intOf]; omega⟩
        · go_wp2_with fail

          have HD : Hid (Do w t b r f f M wr.heap.size [.int .u8 (kd : Int), .int .u8 (nm : Int), .int .i64 a, .int .i64 b0, .int .i64 c] (wr.alloc (.cells #[.int .u8 (kd : Int), .int .u8 (nm : Int), .int .i64 a, .int .i64 b0, .int .i64 c] 42))) := ⟨HI.out.2.kp_ (kp_alloc _ _), Lc.new wr _ _⟩
          clear HI e0 e1 e2 e3 e4

          have HBF : Hid (Bd M f) := HD.out.dn.bf
          refine Calls.mono (do_splice HD.out HM.out.2.2 a b0 c) ?_
          rintro e w5 ⟨rfl, H5⟩
          clear HD
          have q2 := H5.out.op.at (j := 2) rfl
          have q3 := H5.out.op.at (j := 3) rfl
          have q4 := H5.out.op.at (j := 4) rfl
          go_wp2_with fail
          refine Calls.mono (do_jsplice H5.out HBF.out (by have := HM.out.2.1; omega) HM.out.2.2) ?_
          rintro e w6 ⟨rfl, H6⟩
          have HX : Hid (M + 2147483647 = 2147483647 * (((i + 1 : Nat) : Int) + 1) ∧ M + 2147483647 ≤ 1099511627776 ∧ Dn w t b r (spF f a b0 c) (spF f a b0 c) (M + 2147483647) w6) := ⟨by have := HM.out.1; omega, HM.out.2.2, H6.out.dn⟩

          clear H5 H6 HBF q2 q3 q4 HM
          go_wp2_with fail
          refine Calls.mono (dn_all HX.out.2.2) ?_
          rintro e wa ⟨v1, rfl, HA⟩
          have HXM : Hid _ := HX.out.1
          have HXN : Hid _ := HX.out.2.1
          clear HX
          go_wp2_with fail
          refine Calls.mono (dn_jall HA.out) ?_
          rintro e wb ⟨v2, rfl, HB⟩
          clear HA
          go_wp2_with fail
          refine Calls.mono (dn_same HXN.out HB.out) ?_
          rintro e wc ⟨rfl, HZ⟩
          clear HB
          go_wp2_with fail
          exact ⟨⟨i + 1, t, b, _, M + 2147483647, by omega, by go_num, rfl, HXM.out, HZ.out⟩, by simp only [intOf]; omega⟩
        · go_wp2_with fail

          have HD : Hid (Do w t b r f f M wr.heap.size [.int .u8 (kd : Int), .int .u8 (nm : Int), .int .i64 a, .int .i64 b0, .int .i64 c] (wr.alloc (.cells #[.int .u8 (kd : Int), .int .u8 (nm : Int), .int .i64 a, .int .i64 b0, .int .i64 c] 42))) := ⟨HI.out.2.kp_ (kp_alloc _ _), Lc.new wr _ _⟩
          clear HI e0 e1 e2 e3 e4

          have HBF : Hid (Bd M f) := HD.out.dn.bf
          refine Calls.mono (do_splice HD.out HM.out.2.2 a b0 c) ?_
          rintro e w5 ⟨rfl, H5⟩
          clear HD
          have q2 := H5.out.op.at (j := 2) rfl
          have q3 := H5.out.op.at (j := 3) rfl
          have q4 := H5.out.op.at (j := 4) rfl
          go_wp2_with fail
          refine Calls.mono (do_jsplice H5.out HBF.out (by have := HM.out.2.1; omega) HM.out.2.2) ?_
          rintro e w6 ⟨rfl, H6⟩
          have HX : Hid (M + 2147483647 = 2147483647 * (((i + 1 : Nat) : Int) + 1) ∧ M + 2147483647 ≤ 1099511627776 ∧ Dn w t b r (spF f a b0 c) (spF f a b0 c) (M + 2147483647) w6) := ⟨by have := HM.out.1; omega, HM.out.2.2, H6.out.dn⟩

          clear H5 H6 HBF q2 q3 q4 HM
          go_wp2_with fail
          refine Calls.mono (dn_all HX.out.2.2) ?_
          rintro e wa ⟨v1, rfl, HA⟩
          have HXM : Hid _ := HX.out.1
          have HXN : Hid _ := HX.out.2.1
          clear HX
          go_wp2_with fail
          refine Calls.mono (dn_jall HA.out) ?_
          rintro e wb ⟨v2, rfl, HB⟩
          clear HA
          go_wp2_with fail
          refine Calls.mono (dn_same HXN.out HB.out) ?_
          rintro e wc ⟨rfl, HZ⟩
          clear HB
          go_wp2_with fail
          exact ⟨⟨i + 1, t, b, _, M + 2147483647, by omega, by go_num, rfl, HXM.out, HZ.out⟩, by simp only [intOf]; omega⟩
        · go_wp2_with fail

          have HD : Hid (Do w t b r f f M wr.heap.size [.int .u8 (kd : Int), .int .u8 (nm : Int), .int .i64 a, .int .i64 b0, .int .i64 c] (wr.alloc (.cells #[.int .u8 (kd : Int), .int .u8 (nm : Int), .int .i64 a, .int .i64 b0, .int .i64 c] 42))) := ⟨HI.out.2.kp_ (kp_alloc _ _), Lc.new wr _ _⟩
          clear HI e0 e1 e2 e3 e4

          have HBF : Hid (Bd M f) := HD.out.dn.bf
          refine Calls.mono (do_move HD.out HM.out.2.1 HM.out.2.2 a b0 c) ?_
          rintro e w5 ⟨rfl, H5⟩
          clear HD
          have q2 := H5.out.op.at (j := 2) rfl
          have q3 := H5.out.op.at (j := 3) rfl
          have q4 := H5.out.op.at (j := 4) rfl
          go_wp2_with fail
          refine Calls.mono (do_jmove H5.out HM.out.2.1 HM.out.2.2) ?_
          rintro e w6 ⟨rfl, H6⟩
          have HX : Hid (M + 2147483647 = 2147483647 * (((i + 1 : Nat) : Int) + 1) ∧ M + 2147483647 ≤ 1099511627776 ∧ Dn w t b r (mvF f a b0 c) (mvF f a b0 c) (M + 2147483647) w6) := ⟨by have := HM.out.1; omega, HM.out.2.2, H6.out.dn.mono (by omega)⟩

          clear H5 H6 HBF q2 q3 q4 HM
          go_wp2_with fail
          refine Calls.mono (dn_all HX.out.2.2) ?_
          rintro e wa ⟨v1, rfl, HA⟩
          have HXM : Hid _ := HX.out.1
          have HXN : Hid _ := HX.out.2.1
          clear HX
          go_wp2_with fail
          refine Calls.mono (dn_jall HA.out) ?_
          rintro e wb ⟨v2, rfl, HB⟩
          clear HA
          go_wp2_with fail
          refine Calls.mono (dn_same HXN.out HB.out) ?_
          rintro e wc ⟨rfl, HZ⟩
          clear HB
          go_wp2_with fail
          exact ⟨⟨i + 1, t, b, _, M + 2147483647, by omega, by go_num, rfl, HXM.out, HZ.out⟩, by simp only [intOf]; omega⟩
        · go_wp2_with fail

          have HD : Hid (Do w t b r f f M wr.heap.size [.int .u8 (kd : Int), .int .u8 (nm : Int), .int .i64 a, .int .i64 b0, .int .i64 c] (wr.alloc (.cells #[.int .u8 (kd : Int), .int .u8 (nm : Int), .int .i64 a, .int .i64 b0, .int .i64 c] 42))) := ⟨HI.out.2.kp_ (kp_alloc _ _), Lc.new wr _ _⟩
          clear HI e0 e1 e2 e3 e4

          have HBF : Hid (Bd M f) := HD.out.dn.bf
          refine Calls.mono (do_move HD.out HM.out.2.1 HM.out.2.2 a b0 c) ?_
          rintro e w5 ⟨rfl, H5⟩
          clear HD
          have q2 := H5.out.op.at (j := 2) rfl
          have q3 := H5.out.op.at (j := 3) rfl
          have q4 := H5.out.op.at (j := 4) rfl
          go_wp2_with fail
          refine Calls.mono (do_jmove H5.out HM.out.2.1 HM.out.2.2) ?_
          rintro e w6 ⟨rfl, H6⟩
          have HX : Hid (M + 2147483647 = 2147483647 * (((i + 1 : Nat) : Int) + 1) ∧ M + 2147483647 ≤ 1099511627776 ∧ Dn w t b r (mvF f a b0 c) (mvF f a b0 c) (M + 2147483647) w6) := ⟨by have := HM.out.1; omega, HM.out.2.2, H6.out.dn.mono (by omega)⟩

          clear H5 H6 HBF q2 q3 q4 HM
          go_wp2_with fail
          refine Calls.mono (dn_all HX.out.2.2) ?_
          rintro e wa ⟨v1, rfl, HA⟩
          have HXM : Hid _ := HX.out.1
          have HXN : Hid _ := HX.out.2.1
          clear HX
          go_wp2_with fail
          refine Calls.mono (dn_jall HA.out) ?_
          rintro e wb ⟨v2, rfl, HB⟩
          clear HA
          go_wp2_with fail
          refine Calls.mono (dn_same HXN.out HB.out) ?_
          rintro e wc ⟨rfl, HZ⟩
          clear HB
          go_wp2_with fail
          exact ⟨⟨i + 1, t, b, _, M + 2147483647, by omega, by go_num, rfl, HXM.out, HZ.out⟩, by simp only [intOf]; omega⟩
        · go_wp2_with fail

          have HD : Hid (Do w t b r f f M wr.heap.size [.int .u8 (kd : Int), .int .u8 (nm : Int), .int .i64 a, .int .i64 b0, .int .i64 c] (wr.alloc (.cells #[.int .u8 (kd : Int), .int .u8 (nm : Int), .int .i64 a, .int .i64 b0, .int .i64 c] 42))) := ⟨HI.out.2.kp_ (kp_alloc _ _), Lc.new wr _ _⟩
          clear HI e0 e1 e2 e3 e4

          obtain ⟨P, hP⟩ : ∃ P, (f nm).getD 0 = P := ⟨_, rfl⟩
          obtain ⟨Q, hQ, hQQ⟩ : ∃ Q : Int, (if (f nm).isSome then (0 : Int) else 100) = Q ∧ (Q = 0 ∨ Q = 100) := ⟨_, rfl, by split <;> simp⟩
          have HG := fun W (q : Do w t b r f f M wr.heap.size [.int .u8 (kd : Int), .int .u8 (nm : Int), .int .i64 a, .int .i64 b0, .int .i64 c] W) => do_get q hnm
          have HJ := fun W (q : Do w t b r f f M wr.heap.size [.int .u8 (kd : Int), .int .u8 (nm : Int), .int .i64 a, .int .i64 b0, .int .i64 c] W) => do_jget q hnm
          rw [hP, hQ] at HG HJ
          have HGG : Hid _ := HG
          have HJJ : Hid _ := HJ
          clear HG HJ hP hQ
          refine Calls.mono (HGG.out _ HD.out) ?_
          rintro e w5 ⟨rfl, H5⟩
          clear HD
          have q1 := H5.out.op.at (j := 1) rfl
          have q0 := H5.out.op.at (j := 0) rfl
          rcases hQQ with rfl | rfl
          · go_wp2_with fail
            refine Calls.mono (HJJ.out _ H5.out) ?_
            rintro e w6 ⟨rfl, H6⟩
            have HX : Hid (M + 2147483647 = 2147483647 * (((i + 1 : Nat) : Int) + 1) ∧ M + 2147483647 ≤ 1099511627776 ∧ Dn w t b r f f (M + 2147483647) w6) := ⟨by have := HM.out.1; omega, HM.out.2.2, H6.out.dn.mono (by omega)⟩

            clear H5 H6 HGG HJJ q0 q1 HM
            go_wp2_with fail
            refine Calls.mono (dn_all HX.out.2.2) ?_
            rintro e wa ⟨v1, rfl, HA⟩
            have HXM : Hid _ := HX.out.1
            have HXN : Hid _ := HX.out.2.1
            clear HX
            go_wp2_with fail
            refine Calls.mono (dn_jall HA.out) ?_
            rintro e wb ⟨v2, rfl, HB⟩
            clear HA
            go_wp2_with fail
            refine Calls.mono (dn_same HXN.out HB.out) ?_
            rintro e wc ⟨rfl, HZ⟩
            clear HB
            go_wp2_with fail
            exact ⟨⟨i + 1, t, b, _, M + 2147483647, by omega, by go_num, rfl, HXM.out, HZ.out⟩, by simp only [intOf]; omega⟩
          · go_wp2_with fail
            refine Calls.mono (HJJ.out _ H5.out) ?_
            rintro e w6 ⟨rfl, H6⟩
            have HX : Hid (M + 2147483647 = 2147483647 * (((i + 1 : Nat) : Int) + 1) ∧ M + 2147483647 ≤ 1099511627776 ∧ Dn w t b r f f (M + 2147483647) w6) := ⟨by have := HM.out.1; omega, HM.out.2.2, H6.out.dn.mono (by omega)⟩

            clear H5 H6 HGG HJJ q0 q1 HM
            go_wp2_with fail
            refine Calls.mono (dn_all HX.out.2.2) ?_
            rintro e wa ⟨v1, rfl, HA⟩
            have HXM : Hid _ := HX.out.1
            have HXN : Hid _ := HX.out.2.1
            clear HX
            go_wp2_with fail
            refine Calls.mono (dn_jall HA.out) ?_
            rintro e wb ⟨v2, rfl, HB⟩
            clear HA
            go_wp2_with fail
            refine Calls.mono (dn_same HXN.out HB.out) ?_
            rintro e wc ⟨rfl, HZ⟩
            clear HB
            go_wp2_with fail
            exact ⟨⟨i + 1, t, b, _, M + 2147483647, by omega, by go_num, rfl, HXM.out, HZ.out⟩, by simp only [intOf]; omega⟩
        · go_wp2_with fail

          have HD : Hid (Do w t b r f f M wr.heap.size [.int .u8 (kd : Int), .int .u8 (nm : Int), .int .i64 a, .int .i64 b0, .int .i64 c] (wr.alloc (.cells #[.int .u8 (kd : Int), .int .u8 (nm : Int), .int .i64 a, .int .i64 b0, .int .i64 c] 42))) := ⟨HI.out.2.kp_ (kp_alloc _ _), Lc.new wr _ _⟩
          clear HI e0 e1 e2 e3 e4

          refine Calls.mono (do_copy HD.out) ?_
          rintro e w5 ⟨t', b', rfl, H5⟩
          have HX : Hid (M + 2147483647 = 2147483647 * (((i + 1 : Nat) : Int) + 1) ∧ M + 2147483647 ≤ 1099511627776 ∧ Dn w t' b' r f f (M + 2147483647) w5) := ⟨by have := HM.out.1; omega, HM.out.2.2, H5.out.dn.mono (by omega)⟩

          clear HD H5 HM
          go_wp2_with fail
          refine Calls.mono (dn_all HX.out.2.2) ?_
          rintro e wa ⟨v1, rfl, HA⟩
          have HXM : Hid _ := HX.out.1
          have HXN : Hid _ := HX.out.2.1
          clear HX
          go_wp2_with fail
          refine Calls.mono (dn_jall HA.out) ?_
          rintro e wb ⟨v2, rfl, HB⟩
          clear HA
          go_wp2_with fail
          refine Calls.mono (dn_same HXN.out HB.out) ?_
          rintro e wc ⟨rfl, HZ⟩
          clear HB
          go_wp2_with fail
          exact ⟨⟨i + 1, t', b', _, M + 2147483647, by omega, by go_num, rfl, HXM.out, HZ.out⟩, by simp only [intOf]; omega⟩
      · obtain rfl : i = N := by omega
        have g1 : decide ((i : Int) < (i : Int)) = false := by simp
        clear HC hlt
        go_wp2_with fail
        go_ret
        exact ⟨rfl, HI.out.2.kp⟩
end Go.Proofs.Ytmceophmdkcgcaa
