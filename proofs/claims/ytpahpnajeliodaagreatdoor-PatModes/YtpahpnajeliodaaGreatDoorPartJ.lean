/- Texts that the proof of the law stands on: PMod1, PMod. -/
import Derived.Test.YtpahpnajeliodaaGreatDoorPartI
import Derived.Deep.RegionHeld3
/- PatModes: the walk, over what known, Parse and Print come to. -/
namespace Go.Proofs.YtpahpnajeliodaaGreatDoor
open Go.ChangeShapes Go.WideShapes Go.ChangeAt Go.RowKit
set_option linter.unusedVariables false
set_option linter.unusedSimpArgs false
/-- What the law's calls come to at the two texts of these parts. -/
def GoesM (w : World) (E : List Nat) : Prop :=
  ∀ x, Kp w x → Calls Tryz.prog 5 #[.string (veryT E), .string ⟨#[]⟩] x fun e w1 => ∃ va N vc R gs cs, e = .returned (.tuple #[.agg #[.slice va N vc, .int .i64 R, .int .i64 gs, .int .u8 cs], .int .u16 0, .int .i64 0]) ∧ Kp x w1 ∧
    ∀ y, Kp w1 y → Calls Tryz.prog 5 #[.string (magicT E), .string ⟨#[]⟩] y fun e w2 => ∃ vb vd, e = .returned (.tuple #[.agg #[.slice vb N vd, .int .i64 R, .int .i64 gs, .int .u8 cs], .int .u16 0, .int .i64 0]) ∧ Kp y w2 ∧
      ∃ X : ByteArray, ∀ z, Kp w2 z → (Calls Tryz.prog 6 #[.agg #[.slice va N vc, .int .i64 R, .int .i64 gs, .int .u8 cs]] z fun e w3 => e = .returned (.string X) ∧ Kp z w3) ∧ Calls Tryz.prog 6 #[.agg #[.slice vb N vd, .int .i64 R, .int .i64 gs, .int .u8 cs]] z fun e w3 => e = .returned (.string X) ∧ Kp z w3
/-- Parts that were laid. -/
structure Prt (w : World) (i : Nat) (E : List Nat) (wr : World) : Prop where
  nine : ∀ x ∈ E, x < 9
  few : c5 E ≤ 9
  le : E.length ≤ i
  kp : Kp w wr
theorem Prt.more {w wr : World} {i : Nat} {E : List Nat} (h : Prt w i E wr) {x : Nat} (hx : x < 9) (h5 : x = 5 → c5 E < 9) : Prt w (i + 1) (E ++ [x]) wr := by
  refine ⟨fun y hy => ?_, ?_, ?_, h.kp⟩
  · simp only [List.mem_append, List.mem_singleton] at hy
    rcases hy with hy | rfl
    · exact h.nine y hy
    · exact hx
  · rw [c5_snoc]
    have := h.few
    by_cases q : x = 5
    · have := h5 q; rw [if_pos q]; omega
    · rw [if_neg q]; omega
  · rw [List.length_append, List.length_singleton]; have := h.le; omega
theorem Prt.same {w wr : World} {i : Nat} {E : List Nat} (h : Prt w i E wr) : Prt w (i + 1) E wr := ⟨h.nine, h.few, by have := h.le; omega, h.kp⟩
section
variable {w : World}
theorem boxQ (w : World) (a b c d : Value) : ((w.alloc (.cells #[a, b, c, d] 26)).cell? ⟨w.heap.size, 0, none⟩ = some a ∧ (w.alloc (.cells #[a, b, c, d] 26)).cell? ⟨w.heap.size, 1, none⟩ = some b) ∧ ((w.alloc (.cells #[a, b, c, d] 26)).cell? ⟨w.heap.size, 2, none⟩ = some c ∧ (w.alloc (.cells #[a, b, c, d] 26)).cell? ⟨w.heap.size, 3, none⟩ = some d) ∧ Kp w (w.alloc (.cells #[a, b, c, d] 26)) :=
  ⟨⟨by rw [cell_at (alloc_new w _)]; rfl, by rw [cell_at (alloc_new w _)]; rfl⟩, ⟨by rw [cell_at (alloc_new w _)]; rfl, by rw [cell_at (alloc_new w _)]; rfl⟩, kp_alloc _ _⟩
set_option maxHeartbeats 8000000 in
set_option maxRecDepth 100000 in
theorem modes_walk {v : Value} {l : List Nat} (h : Byl v l w) (hk : ∀ x, Kp w x → Calls Tryz.prog 4 #[] x fun e w' => e = .returned (.bool true) ∧ Kp x w') (hg : ∀ E, (∀ x ∈ E, x < 9) → c5 E ≤ 9 → E.length ≤ 40 → (veryT E).size ≤ 300 → (magicT E).size ≤ 300 → GoesM w E) :
    Calls Tryz.prog 3 #[v] w fun e w' => e = .returned (.bool true) ∧ Kp w w' := by
  obtain ⟨va, cap, rfl, k1, k2, k3⟩ := h
  obtain ⟨N, hN⟩ : ∃ N, l.length = N := ⟨_, rfl⟩
  have HC : Hid (∀ i, i < N → ∃ x B o, x < 256 ∧ va = some ⟨B, o, none⟩ ∧ w.cell? ⟨B, o + i, none⟩ = some (.int .u8 (x : Nat))) := fun i hi => by
    have hi' : i < l.length := by omega
    obtain ⟨hx, B, o, e1, e2⟩ := k3 i l[i] (List.getElem?_eq_getElem hi')
    exact ⟨l[i], B, o, hx, e1, e2⟩
  rw [hN] at k1 ⊢
  unfold maxLen at k2
  have HG : Hid _ := hg
  have HN : Hid _ := hk
  clear k3 hN hg hk
  by_cases h40 : 40 < N
  · have d1 : decide ((N : Int) > 40) = true := decide_eq_true (by omega)
    have d2 : decide ((40 : Int) < (N : Int)) = true := decide_eq_true (by omega)
    have d3 : decide (40 < N) = true := decide_eq_true (by omega)
    clear HC h40
    go_enter Tryz.func3, Tryz.ntmps3
    go_wp2_with fail
    refine Calls.mono (HN.out _ (Below.refl _ _)) ?_
    rintro e w2 ⟨rfl, kk⟩
    have HK : Hid (Kp w w2) := kk
    clear kk
    go_wp2_with fail
    go_ret
    exact ⟨rfl, HK.out⟩
  · have d1 : decide ((N : Int) > 40) = false := decide_eq_false (by omega)
    have d2 : decide ((40 : Int) < (N : Int)) = false := decide_eq_false (by omega)
    have d3 : decide (40 < N) = false := decide_eq_false (by omega)
    have h40' : N ≤ 40 := by omega
    clear h40
    go_enter Tryz.func3, Tryz.ntmps3
    go_wp2_with fail
    refine Calls.mono (HN.out _ (Below.refl _ _)) ?_
    rintro e w2 ⟨rfl, kk⟩
    have HK : Hid (Kp w w2) := kk
    clear kk
    go_wp2_with fail
    go_loopw [3, 4, 5, 6] (fun v3 v4 v5 v6 wr => ∃ (i : Nat) (E : List Nat), i ≤ N ∧ v6 = .int .i64 i ∧ v5 = .int .i64 (c5 E : Nat) ∧ v4 = .string (magicT E) ∧ v3 = .string (veryT E) ∧ Hid (Prt w i E wr)) (fun _ _ _ v6 _ => N - (intOf v6).toNat)
    case atStart => exact ⟨0, [], Nat.zero_le _, rfl, rfl, rfl, rfl, ⟨by simp, by decide, by simp, HK.out⟩⟩
    case round =>
      obtain ⟨i, E, hi, rfl, rfl, rfl, rfl, HI⟩ := hrel
      obtain ⟨V, hV⟩ : ∃ V, veryT E = V := ⟨_, rfl⟩
      obtain ⟨M, hM⟩ : ∃ M, magicT E = M := ⟨_, rfl⟩
      obtain ⟨O, hO⟩ : ∃ O, c5 E = O := ⟨_, rfl⟩
      have HE : Hid (veryT E = V ∧ magicT E = M ∧ c5 E = O) := ⟨hV, hM, hO⟩
      have hO9 : O ≤ 9 := by rw [← hO]; exact HI.out.few
      have catV : ∀ x t, tV x = t → Hid (∃ V', veryT (E ++ [x]) = V' ∧ ∀ W, (Op.stringOp .add V ⟨t.toArray⟩).run Tryz.prog W = .ok (.string V') W) := fun x t ht => ⟨_, rfl, fun W => by rw [← hV]; exact cat_v (by have := HI.out.le; omega) x ht W⟩
      have catM : ∀ x t, tM x = t → Hid (∃ M', magicT (E ++ [x]) = M' ∧ ∀ W, (Op.stringOp .add M ⟨t.toArray⟩).run Tryz.prog W = .ok (.string M') W) := fun x t ht => ⟨_, rfl, fun W => by rw [← hM]; exact cat_m (by have := HI.out.le; omega) x ht W⟩
      rw [hV, hM, hO]
      clear hV hM hO
      by_cases hlt : i < N
      · have g1 : decide ((i : Int) < (N : Int)) = true := decide_eq_true (by omega)
        have g2 : decide (i < N) = true := decide_eq_true (by omega)
        obtain ⟨x, B, o, hx, rfl, e2⟩ := HC.out i hlt
        replace e2 := kp_cell HI.out.kp e2
        obtain ⟨m, hm⟩ : ∃ m, x % 9 = m := ⟨_, rfl⟩
        have hm9 : m < 9 := by omega
        have hm2 : (x : Int) % 9 = (m : Int) := by omega
        clear hm HC
        obtain rfl | rfl | rfl | rfl | rfl | rfl | rfl | rfl | rfl : m = 0 ∨ m = 1 ∨ m = 2 ∨ m = 3 ∨ m = 4 ∨ m = 5 ∨ m = 6 ∨ m = 7 ∨ m = 8 := by omega
        · obtain ⟨V', hV', cV⟩ := (catV 0 [97] rfl).out
          obtain ⟨M', hM', cM⟩ := (catM 0 [97] rfl).out
          have HE' : Hid (veryT (E ++ [0]) = V' ∧ magicT (E ++ [0]) = M' ∧ c5 (E ++ [0]) = O) := ⟨hV', hM', by rw [c5_snoc, HE.out.2.2]; rfl⟩
          clear hV' hM' catV catM
          go_wp2_with fail
          go_roundw
          case rel => exact ⟨i + 1, E ++ [0], by omega, by go_num, by rw [HE'.out.2.2], by rw [HE'.out.2.1], by rw [HE'.out.1], HI.out.more (by decide) (fun h => by cases h)⟩
          case measure => simp only [intOf]; omega
        · obtain ⟨V', hV', cV⟩ := (catV 1 [46] rfl).out
          obtain ⟨M', hM', cM⟩ := (catM 1 [46] rfl).out
          have HE' : Hid (veryT (E ++ [1]) = V' ∧ magicT (E ++ [1]) = M' ∧ c5 (E ++ [1]) = O) := ⟨hV', hM', by rw [c5_snoc, HE.out.2.2]; rfl⟩
          clear hV' hM' catV catM
          go_wp2_with fail
          go_roundw
          case rel => exact ⟨i + 1, E ++ [1], by omega, by go_num, by rw [HE'.out.2.2], by rw [HE'.out.2.1], by rw [HE'.out.1], HI.out.more (by decide) (fun h => by cases h)⟩
          case measure => simp only [intOf]; omega
        · obtain ⟨V', hV', cV⟩ := (catV 2 [98, 43] rfl).out
          obtain ⟨M', hM', cM⟩ := (catM 2 [98, 92, 43] rfl).out
          have HE' : Hid (veryT (E ++ [2]) = V' ∧ magicT (E ++ [2]) = M' ∧ c5 (E ++ [2]) = O) := ⟨hV', hM', by rw [c5_snoc, HE.out.2.2]; rfl⟩
          clear hV' hM' catV catM
          go_wp2_with fail
          go_roundw
          case rel => exact ⟨i + 1, E ++ [2], by omega, by go_num, by rw [HE'.out.2.2], by rw [HE'.out.2.1], by rw [HE'.out.1], HI.out.more (by decide) (fun h => by cases h)⟩
          case measure => simp only [intOf]; omega
        · obtain ⟨V', hV', cV⟩ := (catV 3 [99, 123, 50, 44, 51, 125] rfl).out
          obtain ⟨M', hM', cM⟩ := (catM 3 [99, 92, 123, 50, 44, 51, 125] rfl).out
          have HE' : Hid (veryT (E ++ [3]) = V' ∧ magicT (E ++ [3]) = M' ∧ c5 (E ++ [3]) = O) := ⟨hV', hM', by rw [c5_snoc, HE.out.2.2]; rfl⟩
          clear hV' hM' catV catM
          go_wp2_with fail
          go_roundw
          case rel => exact ⟨i + 1, E ++ [3], by omega, by go_num, by rw [HE'.out.2.2], by rw [HE'.out.2.1], by rw [HE'.out.1], HI.out.more (by decide) (fun h => by cases h)⟩
          case measure => simp only [intOf]; omega
        · obtain ⟨V', hV', cV⟩ := (catV 4 [124] rfl).out
          obtain ⟨M', hM', cM⟩ := (catM 4 [92, 124] rfl).out
          have HE' : Hid (veryT (E ++ [4]) = V' ∧ magicT (E ++ [4]) = M' ∧ c5 (E ++ [4]) = O) := ⟨hV', hM', by rw [c5_snoc, HE.out.2.2]; rfl⟩
          clear hV' hM' catV catM
          go_wp2_with fail
          go_roundw
          case rel => exact ⟨i + 1, E ++ [4], by omega, by go_num, by rw [HE'.out.2.2], by rw [HE'.out.2.1], by rw [HE'.out.1], HI.out.more (by decide) (fun h => by cases h)⟩
          case measure => simp only [intOf]; omega
        · by_cases ho : O < 9
          · have o1 : decide ((O : Int) < 9) = true := decide_eq_true (by omega)
            have o2 : decide (O < 9) = true := decide_eq_true ho
            obtain ⟨V', hV', cV⟩ := (catV 5 [40, 100, 41] rfl).out
            obtain ⟨M', hM', cM⟩ := (catM 5 [92, 40, 100, 92, 41] rfl).out
            have HE' : Hid (veryT (E ++ [5]) = V' ∧ magicT (E ++ [5]) = M' ∧ c5 (E ++ [5]) = O + 1) := ⟨hV', hM', by rw [c5_snoc, HE.out.2.2]; rfl⟩
            clear hV' hM' catV catM
            go_wp2_with fail
            go_roundw
            case rel => exact ⟨i + 1, E ++ [5], by omega, by go_num, by rw [HE'.out.2.2]; go_num, by rw [HE'.out.2.1], by rw [HE'.out.1], HI.out.more (by decide) (fun _ => by rw [HE.out.2.2]; exact ho)⟩
            case measure => simp only [intOf]; omega
          · have o1 : decide ((O : Int) < 9) = false := decide_eq_false (by omega)
            have o2 : decide (O < 9) = false := decide_eq_false ho
            clear catV catM
            go_wp2_with fail
            go_roundw
            case rel => exact ⟨i + 1, E, by omega, by go_num, by rw [HE.out.2.2], by rw [HE.out.2.1], by rw [HE.out.1], HI.out.same⟩
            case measure => simp only [intOf]; omega
        · obtain ⟨V', hV', cV⟩ := (catV 6 [91, 97, 45, 99, 93, 42] rfl).out
          obtain ⟨M', hM', cM⟩ := (catM 6 [91, 97, 45, 99, 93, 42] rfl).out
          have HE' : Hid (veryT (E ++ [6]) = V' ∧ magicT (E ++ [6]) = M' ∧ c5 (E ++ [6]) = O) := ⟨hV', hM', by rw [c5_snoc, HE.out.2.2]; rfl⟩
          clear hV' hM' catV catM
          go_wp2_with fail
          go_roundw
          case rel => exact ⟨i + 1, E ++ [6], by omega, by go_num, by rw [HE'.out.2.2], by rw [HE'.out.2.1], by rw [HE'.out.1], HI.out.more (by decide) (fun h => by cases h)⟩
          case measure => simp only [intOf]; omega
        · obtain ⟨V', hV', cV⟩ := (catV 7 [60, 101, 62] rfl).out
          obtain ⟨M', hM', cM⟩ := (catM 7 [92, 60, 101, 92, 62] rfl).out
          have HE' : Hid (veryT (E ++ [7]) = V' ∧ magicT (E ++ [7]) = M' ∧ c5 (E ++ [7]) = O) := ⟨hV', hM', by rw [c5_snoc, HE.out.2.2]; rfl⟩
          clear hV' hM' catV catM
          go_wp2_with fail
          go_roundw
          case rel => exact ⟨i + 1, E ++ [7], by omega, by go_num, by rw [HE'.out.2.2], by rw [HE'.out.2.1], by rw [HE'.out.1], HI.out.more (by decide) (fun h => by cases h)⟩
          case measure => simp only [intOf]; omega
        · obtain ⟨V', hV', cV⟩ := (catV 8 [92, 43, 92, 100] rfl).out
          obtain ⟨M', hM', cM⟩ := (catM 8 [43, 92, 100] rfl).out
          have HE' : Hid (veryT (E ++ [8]) = V' ∧ magicT (E ++ [8]) = M' ∧ c5 (E ++ [8]) = O) := ⟨hV', hM', by rw [c5_snoc, HE.out.2.2]; rfl⟩
          clear hV' hM' catV catM
          go_wp2_with fail
          go_roundw
          case rel => exact ⟨i + 1, E ++ [8], by omega, by go_num, by rw [HE'.out.2.2], by rw [HE'.out.2.1], by rw [HE'.out.1], HI.out.more (by decide) (fun h => by cases h)⟩
          case measure => simp only [intOf]; omega
      · have g1 : decide ((i : Int) < (N : Int)) = false := decide_eq_false (by omega)
        have g2 : decide (i < N) = false := decide_eq_false (by omega)
        obtain ⟨a, ha⟩ : ∃ a, V.size = a := ⟨_, rfl⟩
        obtain ⟨b, hb⟩ : ∃ b, M.size = b := ⟨_, rfl⟩
        clear catV catM HC
        by_cases p1 : 300 < a
        · have f1 : decide ((300 : Int) < (a : Int)) = true := decide_eq_true (by omega)
          have f2 : decide (300 < a) = true := decide_eq_true p1
          go_wp2_with fail
          go_ret
          exact ⟨rfl, HI.out.kp⟩
        have f1 : decide ((300 : Int) < (a : Int)) = false := decide_eq_false (by omega)
        have f2 : decide (300 < a) = false := decide_eq_false p1
        by_cases p2 : 300 < b
        · have f3 : decide ((300 : Int) < (b : Int)) = true := decide_eq_true (by omega)
          have f4 : decide (300 < b) = true := decide_eq_true p2
          go_wp2_with fail
          go_ret
          exact ⟨rfl, HI.out.kp⟩
        have f3 : decide ((300 : Int) < (b : Int)) = false := decide_eq_false (by omega)
        have f4 : decide (300 < b) = false := decide_eq_false p2
        have G := HG.out E HI.out.nine HI.out.few (by have := HI.out.le; omega) (by rw [HE.out.1, ha]; omega) (by rw [HE.out.2.1, hb]; omega)
        unfold GoesM at G
        rw [HE.out.1, HE.out.2.1] at G
        have HP : Hid _ := G
        have HW : Hid (Kp w wr) := HI.out.kp
        clear G HG HI HE
        go_wp2_with fail
        refine Calls.mono (HP.out _ HW.out) ?_
        rintro e w3 ⟨va1, N1, vc1, R, gs, cs, rfl, q1, q2⟩
        have H3 : Hid _ := And.intro (kp_trans HW.out q1) q2
        clear q1 q2 HP
        go_wp2_with fail
        refine Calls.mono (H3.out.2 _ (kp_alloc _ _)) ?_
        rintro e w4 ⟨vb1, vd1, rfl, q1, X, q2⟩
        have H4 : Hid _ := And.intro (kp_trans (kp_trans H3.out.1 (kp_alloc _ _)) q1) q2
        obtain ⟨⟨y0, y1⟩, ⟨y2, y3⟩, _⟩ := boxQ w3 (.slice va1 N1 vc1) (.int .i64 R) (.int .i64 gs) (.int .u8 cs)
        replace y0 := kp_cell q1 y0
        replace y1 := kp_cell q1 y1
        replace y2 := kp_cell q1 y2
        replace y3 := kp_cell q1 y3
        obtain ⟨⟨t0, t1⟩, ⟨t2, t3⟩, t4⟩ := boxQ w4 (.slice vb1 N1 vd1) (.int .i64 R) (.int .i64 gs) (.int .u8 cs)
        replace y0 := kp_cell t4 y0
        replace y1 := kp_cell t4 y1
        replace y2 := kp_cell t4 y2
        replace y3 := kp_cell t4 y3
        clear q1 q2 H3
        go_wp2_with fail
        generalize w4.alloc (.cells #[.slice vb1 N1 vd1, .int .i64 R, .int .i64 gs, .int .u8 cs] 26) = w5 at y0 y1 y2 y3 t0 t1 t2 t3 t4 ⊢
        have HK5 : Hid (Kp w w5) := kp_trans H4.out.1 t4
        have HS : Hid (∀ x u, Kp w5 x → (u = .slice va1 N1 vc1 ∨ u = .slice vb1 N1 vd1) → Calls Tryz.prog 6 #[.agg #[u, .int .i64 R, .int .i64 gs, .int .u8 cs]] x fun e w' => e = .returned (.string X) ∧ Kp w5 w') := by
          rintro x u k (rfl | rfl)
          · exact (H4.out.2 x (kp_trans t4 k)).1.mono fun e w' q => ⟨q.1, kp_trans k q.2⟩
          · exact (H4.out.2 x (kp_trans t4 k)).2.mono fun e w' q => ⟨q.1, kp_trans k q.2⟩
        have z0 := fun w' (k : Kp w5 w') => kp_cell k y0
        have z1 := fun w' (k : Kp w5 w') => kp_cell k y1
        have z2 := fun w' (k : Kp w5 w') => kp_cell k y2
        have z3 := fun w' (k : Kp w5 w') => kp_cell k y3
        have u0 := fun w' (k : Kp w5 w') => kp_cell k t0
        have u1 := fun w' (k : Kp w5 w') => kp_cell k t1
        have u2 := fun w' (k : Kp w5 w') => kp_cell k t2
        have u3 := fun w' (k : Kp w5 w') => kp_cell k t3
        clear H4 y0 y1 y2 y3 t0 t1 t2 t3 t4
        have hk0 : Kp w5 w5 := Below.refl _ _
        go_region_held3 (fun w' => Kp w5 w') (first | assumption | exact Below.drew (by assumption))
          (first | (go_at_call 6; refine Calls.mono (HS.out _ _ (by assumption) (by first | exact .inl rfl | exact .inr rfl)) ?_; rintro e w6 ⟨rfl, hk⟩))
        have HK6 := fun (w6 : World) (k : Kp w5 w6) => kp_trans HK5.out k
        go_wp2_with fail
        go_ret
        exact ⟨by simp, HK6 _ (by assumption)⟩
end
end Go.Proofs.YtpahpnajeliodaaGreatDoor
/- PatModes: the walk, with what known, Parse and Print come to. -/
namespace Go.Proofs.YtpahpnajeliodaaGreatDoor
open Go.ChangeShapes Go.WideShapes Go.ChangeAt Go.RowKit
set_option linter.unusedVariables false
set_option linter.unusedSimpArgs false
theorem modes_law {w : World} {v : Value} {l : List Nat} (h : Byl v l w) (g : Gl w) : Calls Tryz.prog 3 #[v] w fun e w' => e = .returned (.bool true) ∧ Kp w w' := by
  refine modes_walk h (fun x k => known_any (g.kp k)) fun E hn hf h40 hV hM x k => ?_
  obtain ⟨i, gs, cs, nds, r1, r2⟩ := modes_see E hn hf h40 hV hM
  obtain ⟨t, s1, _, _, _, s5, s6⟩ := par_all r1
  obtain ⟨⟨X, n, p1, p2⟩, p3, p4, p5⟩ := par_print r1
  refine Calls.mono (parse_ok _ _ (g.kp k) r1) ?_
  rintro e w1 ⟨va, vc, rfl, q1, q2⟩
  refine ⟨va, nds.length, vc, (i : Int), (gs : Int), (cs : Int), rfl, q2, fun y ky => ?_⟩
  refine Calls.mono (parse_ok _ _ ((g.kp k).kp (kp_trans q2 ky)) r2) ?_
  rintro e w2 ⟨vb, vd, rfl, q3, q4⟩
  refine ⟨vb, vd, rfl, q4, ⟨X.toArray⟩, fun z kz => ?_⟩
  have k1 : Kp w1 z := kp_trans (kp_trans ky q4) kz
  have gz : Gl z := (g.kp k).kp (kp_trans q2 k1)
  have hl : (nds.map Nd.q).length ≤ 400 := by rw [List.length_map]; exact s5
  exact ⟨pprint_any (K := 400) (q1.kp k1) s6 (by omega) (by omega) gz (by unfold Sm; omega) p3 s1 p1 p2, pprint_any (K := 400) (q3.kp kz) s6 (by omega) (by omega) gz (by unfold Sm; omega) p3 s1 p1 p2⟩
end Go.Proofs.YtpahpnajeliodaaGreatDoor
