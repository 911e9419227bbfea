/- Texts that the proof of the law stands on: PSets. -/
import Derived.Test.YthloemacfdgjjaaGreatDoorPartH
/- PatSets: the walk. -/
namespace Go.Proofs.YthloemacfdgjjaaGreatDoor
open Go.ChangeShapes Go.WideShapes Go.ChangeAt Go.RowKit
set_option linter.unusedVariables false
set_option linter.unusedSimpArgs false
section
variable {w w1 : World}
def alB (c : Nat) : Bool := decide (97 ≤ c ∧ c ≤ 122) || decide (65 ≤ c ∧ c ≤ 90) || decide (48 ≤ c ∧ c ≤ 57)
theorem lletter_any (c : Nat) (w : World) : Calls Tryz.prog 13 #[.int .u8 c] w fun e w' => e = .returned (.bool (alB c)) ∧ w' = w := by
  go_enter Tryz.func13, Tryz.ntmps13
  go_wp2_with fail
  all_goals
    go_ret
    refine ⟨?_, rfl⟩
    show Ending.returned (Value.bool _) = Ending.returned (Value.bool _)
    congr 2
    unfold alB
    apply Bool.eq_iff_iff.2
    simp
    try omega
theorem alB_al {c : Nat} (h : alB c = true) : Al c := by
  unfold alB at h
  simp only [Bool.or_eq_true, decide_eq_true_eq] at h
  unfold Al; omega
theorem has_span {q : S4} {a n x : Nat} (ha : a + n ≤ 256) (hx : x < 256) : hasS (addTo q a n) x = (hasS q x || decide (a ≤ x ∧ x < a + n)) := by
  induction n with
  | zero => simp [addTo]; intro h; omega
  | succ n ih =>
    rw [addTo, has_with _ (by omega) hx, ih (by omega)]
    cases hasS q x
    · apply Bool.eq_iff_iff.2
      simp; omega
    · simp
theorem has_nt (b : Bool) (q : S4) {x : Nat} (hx : x < 256) : hasS (nt b q) x = (hasS q x != b) := by
  cases b
  · simp [nt]
  · simp [nt, has_not q hx]
theorem sound_one {Q : S4} {va : Option Addr} {vc : Nat} (hv : Pt w (.slice va 1 vc) [Nd.q { op := 4, set := Q }]) : Calls Tryz.prog 12 #[.agg #[.slice va 1 vc, .int .i64 0, .int .i64 0, .int .u8 0]] w fun e w' => e = .returned (.bool true) ∧ Kp w w' :=
  sound_any (K := 1) hv 0 0 0 (by intro d hd; simp only [List.mem_singleton] at hd; subst hd; exact Nat.zero_le 1) (show 1 * 1 ≤ 10000000 by decide) (show 1 ≤ 10000000 by decide)
theorem one_cells {Q : S4} {va : Option Addr} {vc : Nat} (hv : Pt w (.slice va 1 vc) [Nd.q { op := 4, set := Q }]) : ∃ b o, va = some ⟨b, o, none⟩ ∧ w.cell? ⟨b, o, none⟩ = some (.int .u8 4) ∧ w.cell? ⟨b, o + 2, none⟩ = some (.int .u64 Q.a) ∧ w.cell? ⟨b, o + 3, none⟩ = some (.int .u64 Q.b) ∧ w.cell? ⟨b, o + 4, none⟩ = some (.int .u64 Q.c) ∧ w.cell? ⟨b, o + 5, none⟩ = some (.int .u64 Q.d) := by
  obtain ⟨a, cap, e, _, _, h⟩ := hv
  injection e with e _ _
  obtain ⟨b, o, kv, e2, hc, _⟩ := h 0 _ rfl
  have g := fun j u hu => hc j u hu
  simp only [Nat.zero_mul, Nat.add_zero] at g
  exact ⟨b, o, by rw [e, e2], g 0 _ rfl, g 2 _ rfl, g 3 _ rfl, g 4 _ rfl, g 5 _ rfl⟩
/-- The word in which a byte's bit stands. -/
def wordOf (Q : S4) (j : Nat) : Nat := if j = 0 then Q.a else if j = 1 then Q.b else if j = 2 then Q.c else Q.d
theorem word_bit {Q : S4} (hQ : Q.ok) {c : Nat} (hc : c < 256) : (bits BinOp.and IntKind.u64 ((wordOf Q (c / 64) : Int) / 2 ^ (c % 64)) 1 == 1) = hasS Q c := by
  obtain ⟨h1, h2, h3, h4⟩ := hQ
  by_cases c1 : c < 64
  · rw [show c / 64 = 0 by omega, show c % 64 = c by omega]
    show (bits BinOp.and IntKind.u64 ((Q.a : Int) / 2 ^ c) 1 == 1) = _
    rw [bit_shown h1]; simp [hasS, c1]
  by_cases c2 : c < 128
  · rw [show c / 64 = 1 by omega, show c % 64 = c - 64 by omega]
    show (bits BinOp.and IntKind.u64 ((Q.b : Int) / 2 ^ (c - 64)) 1 == 1) = _
    rw [bit_shown h2]; simp [hasS, c1, c2]
  by_cases c3 : c < 192
  · rw [show c / 64 = 2 by omega, show c % 64 = c - 128 by omega]
    show (bits BinOp.and IntKind.u64 ((Q.c : Int) / 2 ^ (c - 128)) 1 == 1) = _
    rw [bit_shown h3]; simp [hasS, c1, c2, c3]
  · rw [show c / 64 = 3 by omega, show c % 64 = c - 192 by omega]
    show (bits BinOp.and IntKind.u64 ((Q.d : Int) / 2 ^ (c - 192)) 1 == 1) = _
    rw [bit_shown h4]; simp [hasS, c1, c2, c3]
theorem nt_ok (b : Bool) {q : S4} (h : q.ok) : (nt b q).ok := by
  cases b
  · exact h
  · exact ok_not h
theorem two_has (t : Bool) {a b c : Nat} (ha : a < 256) (hb : b < 256) (hc : c < 256) : hasS (nt t (addTo (addTo zeroS a 1) b 1)) c = (((c : Int) == (a : Int) || (c : Int) == (b : Int)) != t) := by
  rw [has_nt t _ hc, has_span (by omega) hc, has_span (by omega) hc, has_zero]
  congr 1
  apply Bool.eq_iff_iff.2
  simp; omega
theorem span_has (t : Bool) {a b c : Nat} (ha : a < 256) (hb : b < 256) (hc : c < 256) (hab : a ≤ b) : hasS (nt t (addTo zeroS a (b + 1 - a))) c = ((decide ((a : Int) ≤ (c : Int)) && decide ((c : Int) ≤ (b : Int))) != t) := by
  rw [has_nt t _ hc, has_span (by omega) hc, has_zero]
  congr 1
  apply Bool.eq_iff_iff.2
  simp; omega
set_option maxHeartbeats 4000000 in
set_option maxRecDepth 100000 in
theorem sets_law (a : Nat) (ha : a < 256) (b : Nat) (hb : b < 256) (c : Nat) (hc : c < 256) (t : Bool) (g : Gl w) : Calls Tryz.prog 6 #[.int .u8 a, .int .u8 b, .int .u8 c, .bool t] w fun e w' => e = .returned (.bool true) ∧ Kp w w' := by
  have HG : Hid (Gl w) := g
  clear g
  go_enter Tryz.func6, Tryz.ntmps6
  go_wp2_with fail
  refine Calls.mono (known_any HG.out) ?_
  rintro e w1 ⟨rfl, q⟩
  have H1 : Hid (Kp w w1) := q
  clear q
  go_wp2_with fail
  refine Calls.mono (lletter_any a _) ?_
  rintro e w' ⟨rfl, rfl⟩
  cases hA : alB a with
  | false =>
    go_wp2_with fail
    refine Calls.mono (known_any (HG.out.kp H1.out)) ?_
    rintro e w2 ⟨rfl, q⟩
    have H2 : Hid (Kp w w2) := kp_trans H1.out q
    clear q
    go_wp2_with fail
    go_ret
    exact ⟨rfl, H2.out⟩
  | true =>
  go_wp2_with fail
  refine Calls.mono (lletter_any b _) ?_
  rintro e w'' ⟨rfl, rfl⟩
  cases hB : alB b with
  | false =>
    go_wp2_with fail
    refine Calls.mono (known_any (HG.out.kp H1.out)) ?_
    rintro e w2 ⟨rfl, q⟩
    have H2 : Hid (Kp w w2) := kp_trans H1.out q
    clear q
    go_wp2_with fail
    go_ret
    exact ⟨rfl, H2.out⟩
  | true =>
  obtain ⟨A, hAu⟩ : ∃ A : UInt8, A.toNat = a := ⟨UInt8.ofNat a, by simp; omega⟩
  obtain ⟨B, hBu⟩ : ∃ B : UInt8, B.toNat = b := ⟨UInt8.ofNat b, by simp; omega⟩
  have HA : Hid (Al A.toNat ∧ Al B.toNat ∧ A.toNat = a ∧ B.toNat = b) := ⟨by rw [hAu]; exact alB_al hA, by rw [hBu]; exact alB_al hB, hAu, hBu⟩
  clear hA hB hAu hBu
  have hcv2 : ∀ x : World, (convert 40 9 (.slice (some ⟨x.heap.size, 0, none⟩) 2 2)).run Tryz.prog (x.alloc (.cells #[.int .u8 a, .int .u8 b] 5)) = .ok (str [A, B]) (x.alloc (.cells #[.int .u8 a, .int .u8 b] 5)) := fun x =>
    run_convert_bytes_back (P := Tryz.prog) _ 40 9 5 ⟨x.heap.size, 0, none⟩ 2 [A, B] Tryz.underlying40 Tryz.underlying5 Tryz.underlying9 (fun j hj => by
      rw [Addr.add_lit, cell_at (alloc_new x _), Nat.zero_add]
      have : j = 0 ∨ j = 1 := by simp at hj; omega
      rcases this with rfl | rfl
      · show some (Value.int .u8 (a : Int)) = some (Value.int .u8 (A.toNat : Int)); rw [HA.out.2.2.1]
      · show some (Value.int .u8 (b : Int)) = some (Value.int .u8 (B.toNat : Int)); rw [HA.out.2.2.2])
  have hcv3 : ∀ x : World, (convert 40 9 (.slice (some ⟨x.heap.size, 0, none⟩) 3 3)).run Tryz.prog (x.alloc (.cells #[.int .u8 a, .int .u8 45, .int .u8 b] 5)) = .ok (str [A, 45, B]) (x.alloc (.cells #[.int .u8 a, .int .u8 45, .int .u8 b] 5)) := fun x =>
    run_convert_bytes_back (P := Tryz.prog) _ 40 9 5 ⟨x.heap.size, 0, none⟩ 3 [A, 45, B] Tryz.underlying40 Tryz.underlying5 Tryz.underlying9 (fun j hj => by
      rw [Addr.add_lit, cell_at (alloc_new x _), Nat.zero_add]
      have : j = 0 ∨ j = 1 ∨ j = 2 := by simp at hj; omega
      rcases this with rfl | rfl | rfl
      · show some (Value.int .u8 (a : Int)) = some (Value.int .u8 (A.toNat : Int)); rw [HA.out.2.2.1]
      · rfl
      · show some (Value.int .u8 (b : Int)) = some (Value.int .u8 (B.toNat : Int)); rw [HA.out.2.2.2])
  have HX : Hid (∀ t, see (parF ⟨([91] ++ hatL t ++ [A, B, 93]).toArray⟩ ⟨#[]⟩) = .ok (0, 0, 0, [{ op := 4, set := nt t (addTo (addTo zeroS a 1) b 1) }])) := fun t => by
    have h1 := set_two t HA.out.1 HA.out.2.1
    rw [HA.out.2.2.1, HA.out.2.2.2] at h1
    have hsz := size_list ([91] ++ hatL t ++ [A, B, 93])
    have hl : ([91] ++ hatL t ++ [A, B, 93]).length ≤ 5 := by cases t <;> simp [hatL]
    exact (coll_read (by rw [hsz]; omega) (by rw [hsz]; cases t <;> simp [hatL]) (by cases t <;> rfl) rfl).2 _ (by rw [h1, hsz])
  have HY : Hid (∀ t, see (parF ⟨([91] ++ hatL t ++ [A, 45, B, 93]).toArray⟩ ⟨#[]⟩) = if b < a then .error (30, 0) else .ok (0, 0, 0, [{ op := 4, set := nt t (addTo zeroS a (b + 1 - a)) }])) := fun t => by
    have h1 := set_span t HA.out.1 HA.out.2.1
    rw [HA.out.2.2.1, HA.out.2.2.2] at h1
    have hsz := size_list ([91] ++ hatL t ++ [A, 45, B, 93])
    have hl : ([91] ++ hatL t ++ [A, 45, B, 93]).length ≤ 6 := by cases t <;> simp [hatL]
    have hr := coll_read (s := ⟨([91] ++ hatL t ++ [A, 45, B, 93]).toArray⟩) (by rw [hsz]; omega) (by rw [hsz]; cases t <;> simp [hatL]) (by cases t <;> rfl) rfl
    by_cases hq : b < a
    · rw [if_pos hq] at h1 ⊢
      exact hr.1 _ h1
    · rw [if_neg hq] at h1 ⊢
      exact hr.2 _ (by rw [h1, hsz])
  cases t with
  | false =>
    have hA0 := cat_run (show ([91] : List UInt8) ++ [94] = [91, 94] from rfl) (by simp)
    have hA1 := cat_run (show ([91] : List UInt8) ++ [A, B] = [91, A, B] from rfl) (by simp)
    have hA2 := cat_run (show ([91, A, B] : List UInt8) ++ [93] = [91, A, B, 93] from rfl) (by simp)
    have hA3 := cat_run (show ([91] : List UInt8) ++ [A, 45, B] = [91, A, 45, B] from rfl) (by simp)
    have hA4 := cat_run (show ([91, A, 45, B] : List UInt8) ++ [93] = [91, A, 45, B, 93] from rfl) (by simp)
    go_wp2_with fail
    refine Calls.mono (parse_ok ⟨#[91, A, B, 93]⟩ ⟨#[]⟩ (HG.out.kp (kp_trans H1.out (kp_alloc _ _))) (HX.out false)) ?_
    rintro e w2 ⟨va, vc, rfl, q1, q2⟩
    obtain ⟨Q1, hQ1⟩ : ∃ Q, nt false (addTo (addTo zeroS a 1) b 1) = Q := ⟨_, rfl⟩
    have HQ1 : Hid (nt false (addTo (addTo zeroS a 1) b 1) = Q1) := hQ1
    rw [hQ1] at q1
    have H2 : Hid (Pt w2 (.slice va 1 vc) [Nd.q { op := 4, set := Q1 }] ∧ Kp w w2) := ⟨q1, kp_trans (kp_trans H1.out (kp_alloc _ _)) q2⟩
    clear q1 q2 hQ1
    simp only [List.length_cons, List.length_nil, Nat.zero_add]
    have hcv4 : (convert 40 9 (.slice (some ⟨w2.heap.size + 1, 0, none⟩) 3 3)).run Tryz.prog ((w2.alloc (.cells #[.slice va 1 vc, .int .i64 0, .int .i64 0, .int .u8 0] 24)).alloc (.cells #[.int .u8 a, .int .u8 45, .int .u8 b] 5)) = .ok (str [A, 45, B]) ((w2.alloc (.cells #[.slice va 1 vc, .int .i64 0, .int .i64 0, .int .u8 0] 24)).alloc (.cells #[.int .u8 a, .int .u8 45, .int .u8 b] 5)) := by
      have := hcv3 (w2.alloc (.cells #[.slice va 1 vc, .int .i64 0, .int .i64 0, .int .u8 0] 24))
      rw [alloc_size] at this
      exact this
    have hbit := word_bit (Q := Q1) (by rw [← HQ1.out]; exact nt_ok _ (addTo_ok (addTo_ok ok_zero (by omega)) (by omega))) hc
    rw [← HQ1.out, two_has false ha hb hc, HQ1.out] at hbit
    obtain ⟨j, hj⟩ : ∃ j, c / 64 = j := ⟨_, rfl⟩
    obtain ⟨r, hr⟩ : ∃ r, c % 64 = r := ⟨_, rfl⟩
    have q1 : (c : Int) / 64 = (j : Int) := by omega
    have q2 : (c : Int) % 64 = (r : Int) := by omega
    have hj4 : j = 0 ∨ j = 1 ∨ j = 2 ∨ j = 3 := by omega
    have hr64 : r < 64 := by omega
    by_cases hba : b < a
    · rw [hj, hr] at hbit
      have hdba : decide ((b : Int) < (a : Int)) = true := decide_eq_true (by omega)
      have HYn : Hid (see (parF ⟨#[91, A, 45, B, 93]⟩ ⟨#[]⟩) = .error (30, 0)) := by have := HY.out false; rw [if_pos hba] at this; exact this
      go_wp2_with fail
      refine Calls.mono (parse_no ⟨#[91, A, 45, B, 93]⟩ ⟨#[]⟩ (HG.out.kp (kp_trans (kp_trans H2.out.2 (kp_alloc _ _)) (kp_alloc _ _))) HYn.out) ?_
      rintro e w3 ⟨rfl, q⟩
      have k23 : Kp (w2.alloc (.cells #[.slice va 1 vc, .int .i64 0, .int .i64 0, .int .u8 0] 24)) w3 := kp_trans (kp_alloc _ _) q
      have H3 : Hid (Kp w w3 ∧ Pt w3 (.slice va 1 vc) [Nd.q { op := 4, set := Q1 }] ∧ PBox w2.heap.size (.slice va 1 vc) 0 0 0 w3) := ⟨kp_trans (kp_trans H2.out.2 (kp_alloc _ _)) k23, H2.out.1.kp (kp_trans (kp_alloc _ _) k23), (show PBox _ _ _ _ _ (w2.alloc _) from alloc_new w2 _).kp k23⟩
      clear q k23
      have y0 := fun ob => (H3.out.2.2.kp (kp_alloc w3 ob)).cells.1
      have y1 := fun ob => (H3.out.2.2.kp (kp_alloc w3 ob)).cells.2.1
      have y2 := fun ob => (H3.out.2.2.kp (kp_alloc w3 ob)).cells.2.2.1
      have y3 := fun ob => (H3.out.2.2.kp (kp_alloc w3 ob)).cells.2.2.2
      go_wp2_with fail
      refine Calls.mono (sound_one (H3.out.2.1.kp (kp_alloc _ _))) ?_
      rintro e w4 ⟨rfl, q⟩
      have H4 : Hid (Kp w w4 ∧ Pt w4 (.slice va 1 vc) [Nd.q { op := 4, set := Q1 }] ∧ PBox w2.heap.size (.slice va 1 vc) 0 0 0 w4) := ⟨kp_trans (kp_trans H3.out.1 (kp_alloc _ _)) q, H3.out.2.1.kp (kp_trans (kp_alloc _ _) q), H3.out.2.2.kp (kp_trans (kp_alloc _ _) q)⟩
      clear q y0 y1 y2 y3
      obtain ⟨y0, y1, y2, y3⟩ := H4.out.2.2.cells
      obtain ⟨nb, no, rfl, c0, c2, c3, c4, c5⟩ := one_cells H4.out.2.1
      clear hj hr hcv2 hcv3 hcv4 hA0 hA1 hA2 hA3 hA4
      rcases hj4 with rfl | rfl | rfl | rfl
      · have hbit' : (bits BinOp.and IntKind.u64 ((Q1.a : Int) / 2 ^ r) 1 == 1) = (((c : Int) == (a : Int) || (c : Int) == (b : Int)) != false) := hbit
        clear hbit
        go_wp2_with fail
        all_goals
          go_ret
          exact ⟨by simp, kp_trans H4.out.1 (kp_alloc _ _)⟩
      · have hbit' : (bits BinOp.and IntKind.u64 ((Q1.b : Int) / 2 ^ r) 1 == 1) = (((c : Int) == (a : Int) || (c : Int) == (b : Int)) != false) := hbit
        clear hbit
        go_wp2_with fail
        all_goals
          go_ret
          exact ⟨by simp, kp_trans H4.out.1 (kp_alloc _ _)⟩
      · have hbit' : (bits BinOp.and IntKind.u64 ((Q1.c : Int) / 2 ^ r) 1 == 1) = (((c : Int) == (a : Int) || (c : Int) == (b : Int)) != false) := hbit
        clear hbit
        go_wp2_with fail
        all_goals
          go_ret
          exact ⟨by simp, kp_trans H4.out.1 (kp_alloc _ _)⟩
      · have hbit' : (bits BinOp.and IntKind.u64 ((Q1.d : Int) / 2 ^ r) 1 == 1) = (((c : Int) == (a : Int) || (c : Int) == (b : Int)) != false) := hbit
        clear hbit
        go_wp2_with fail
        all_goals
          go_ret
          exact ⟨by simp, kp_trans H4.out.1 (kp_alloc _ _)⟩
    · have hbit2 := word_bit (Q := nt false (addTo zeroS a (b + 1 - a))) (nt_ok _ (addTo_ok ok_zero (by omega))) hc
      rw [span_has false ha hb hc (by omega)] at hbit2
      obtain ⟨Q2, hQ2⟩ : ∃ Q, nt false (addTo zeroS a (b + 1 - a)) = Q := ⟨_, rfl⟩
      rw [hQ2] at hbit2
      rw [hj, hr] at hbit hbit2
      have hdba : decide ((b : Int) < (a : Int)) = false := decide_eq_false (by omega)
      have HYn : Hid (see (parF ⟨#[91, A, 45, B, 93]⟩ ⟨#[]⟩) = .ok (0, 0, 0, [{ op := 4, set := Q2 }])) := by have := HY.out false; rw [if_neg hba, hQ2] at this; exact this
      clear hQ2
      go_wp2_with fail
      refine Calls.mono (parse_ok ⟨#[91, A, 45, B, 93]⟩ ⟨#[]⟩ (HG.out.kp (kp_trans (kp_trans H2.out.2 (kp_alloc _ _)) (kp_alloc _ _))) HYn.out) ?_
      rintro e w3 ⟨vb, vd, rfl, q', q⟩
      have k23 : Kp (w2.alloc (.cells #[.slice va 1 vc, .int .i64 0, .int .i64 0, .int .u8 0] 24)) w3 := kp_trans (kp_alloc _ _) q
      have H3 : Hid (Kp w w3 ∧ Pt w3 (.slice va 1 vc) [Nd.q { op := 4, set := Q1 }] ∧ PBox w2.heap.size (.slice va 1 vc) 0 0 0 w3 ∧ Pt w3 (.slice vb 1 vd) [Nd.q { op := 4, set := Q2 }]) := ⟨kp_trans (kp_trans H2.out.2 (kp_alloc _ _)) k23, H2.out.1.kp (kp_trans (kp_alloc _ _) k23), (show PBox _ _ _ _ _ (w2.alloc _) from alloc_new w2 _).kp k23, q'⟩
      clear q k23 q'
      simp only [List.length_cons, List.length_nil, Nat.zero_add]
      have y0 := fun ob => (H3.out.2.2.1.kp (kp_alloc w3 ob)).cells.1
      have y1 := fun ob => (H3.out.2.2.1.kp (kp_alloc w3 ob)).cells.2.1
      have y2 := fun ob => (H3.out.2.2.1.kp (kp_alloc w3 ob)).cells.2.2.1
      have y3 := fun ob => (H3.out.2.2.1.kp (kp_alloc w3 ob)).cells.2.2.2
      go_wp2_with fail
      refine Calls.mono (sound_one (H3.out.2.1.kp (kp_alloc _ _))) ?_
      rintro e w4 ⟨rfl, q⟩
      have H4 : Hid (Kp w w4 ∧ Pt w4 (.slice va 1 vc) [Nd.q { op := 4, set := Q1 }] ∧ PBox w2.heap.size (.slice va 1 vc) 0 0 0 w4 ∧ Pt w4 (.slice vb 1 vd) [Nd.q { op := 4, set := Q2 }] ∧ PBox w3.heap.size (.slice vb 1 vd) 0 0 0 w4) := ⟨kp_trans (kp_trans H3.out.1 (kp_alloc _ _)) q, H3.out.2.1.kp (kp_trans (kp_alloc _ _) q), H3.out.2.2.1.kp (kp_trans (kp_alloc _ _) q), H3.out.2.2.2.kp (kp_trans (kp_alloc _ _) q), (show PBox _ _ _ _ _ (w3.alloc _) from alloc_new w3 _).kp q⟩
      clear q y0 y1 y2 y3
      obtain ⟨y0, y1, y2, y3⟩ := H4.out.2.2.1.cells
      obtain ⟨nb, no, rfl, c0, c2, c3, c4, c5⟩ := one_cells H4.out.2.1
      have z0 := fun ob => (H4.out.2.2.2.2.kp (kp_alloc w4 ob)).cells.1
      have z1 := fun ob => (H4.out.2.2.2.2.kp (kp_alloc w4 ob)).cells.2.1
      have z2 := fun ob => (H4.out.2.2.2.2.kp (kp_alloc w4 ob)).cells.2.2.1
      have z3 := fun ob => (H4.out.2.2.2.2.kp (kp_alloc w4 ob)).cells.2.2.2
      clear hj hr hcv2 hcv3 hcv4 hA0 hA1 hA2 hA3 hA4
      rcases hj4 with rfl | rfl | rfl | rfl
      · have hbit' : (bits BinOp.and IntKind.u64 ((Q1.a : Int) / 2 ^ r) 1 == 1) = (((c : Int) == (a : Int) || (c : Int) == (b : Int)) != false) := hbit
        have hbit2' : (bits BinOp.and IntKind.u64 ((Q2.a : Int) / 2 ^ r) 1 == 1) = ((decide ((a : Int) ≤ (c : Int)) && decide ((c : Int) ≤ (b : Int))) != false) := hbit2
        have HB2 : Hid _ := hbit2'
        clear hbit hbit2 hbit2'
        by_cases hca : c = a
        · subst hca
          go_wp2_with fail
          all_goals
            refine Calls.mono (sound_one (H4.out.2.2.2.1.kp (kp_alloc _ _))) ?_
            rintro e w5 ⟨rfl, q⟩
            have k45 : Kp w4 w5 := kp_trans (kp_alloc _ _) q
            have H5 : Hid (Kp w w5) := kp_trans H4.out.1 k45
            obtain ⟨u0, u1, u2, u3⟩ := (H4.out.2.2.2.2.kp k45).cells
            have t0 := fun ob => ((H4.out.2.2.1.kp k45).kp (kp_alloc w5 ob)).cells.1
            have t1 := fun ob => ((H4.out.2.2.1.kp k45).kp (kp_alloc w5 ob)).cells.2.1
            obtain ⟨nb2, no2, rfl, g0, g2, g3, g4, g5⟩ := one_cells (H4.out.2.2.2.1.kp k45)
            have p0 := fun ob => kp_cell (kp_alloc w5 ob) (kp_cell k45 c0)
            have hb2 := HB2.out
            clear q k45 c0 c2 c3 c4 c5 y0 y1 y2 y3 z0 z1 z2 z3
            go_wp2_with fail
            all_goals
              go_ret
              exact ⟨by simp, kp_trans H5.out (kp_alloc _ _)⟩
        · have e1 : ((c : Int) == (a : Int)) = false := by simp; omega
          by_cases hcb : c = b
          · subst hcb
            go_wp2_with fail
            all_goals
              refine Calls.mono (sound_one (H4.out.2.2.2.1.kp (kp_alloc _ _))) ?_
              rintro e w5 ⟨rfl, q⟩
              have k45 : Kp w4 w5 := kp_trans (kp_alloc _ _) q
              have H5 : Hid (Kp w w5) := kp_trans H4.out.1 k45
              obtain ⟨u0, u1, u2, u3⟩ := (H4.out.2.2.2.2.kp k45).cells
              have t0 := fun ob => ((H4.out.2.2.1.kp k45).kp (kp_alloc w5 ob)).cells.1
              have t1 := fun ob => ((H4.out.2.2.1.kp k45).kp (kp_alloc w5 ob)).cells.2.1
              obtain ⟨nb2, no2, rfl, g0, g2, g3, g4, g5⟩ := one_cells (H4.out.2.2.2.1.kp k45)
              have p0 := fun ob => kp_cell (kp_alloc w5 ob) (kp_cell k45 c0)
              have hb2 := HB2.out
              clear q k45 c0 c2 c3 c4 c5 y0 y1 y2 y3 z0 z1 z2 z3
              go_wp2_with fail
              all_goals
                go_ret
                exact ⟨by simp, kp_trans H5.out (kp_alloc _ _)⟩
          · have e2 : ((c : Int) == (b : Int)) = false := by simp; omega
            clear hca hcb
            go_wp2_with fail
            all_goals
              refine Calls.mono (sound_one (H4.out.2.2.2.1.kp (kp_alloc _ _))) ?_
              rintro e w5 ⟨rfl, q⟩
              have k45 : Kp w4 w5 := kp_trans (kp_alloc _ _) q
              have H5 : Hid (Kp w w5) := kp_trans H4.out.1 k45
              obtain ⟨u0, u1, u2, u3⟩ := (H4.out.2.2.2.2.kp k45).cells
              have t0 := fun ob => ((H4.out.2.2.1.kp k45).kp (kp_alloc w5 ob)).cells.1
              have t1 := fun ob => ((H4.out.2.2.1.kp k45).kp (kp_alloc w5 ob)).cells.2.1
              obtain ⟨nb2, no2, rfl, g0, g2, g3, g4, g5⟩ := one_cells (H4.out.2.2.2.1.kp k45)
              have p0 := fun ob => kp_cell (kp_alloc w5 ob) (kp_cell k45 c0)
              have hb2 := HB2.out
              clear q k45 c0 c2 c3 c4 c5 y0 y1 y2 y3 z0 z1 z2 z3
              go_wp2_with fail
              all_goals
                go_ret
                exact ⟨by simp, kp_trans H5.out (kp_alloc _ _)⟩
      · have hbit' : (bits BinOp.and IntKind.u64 ((Q1.b : Int) / 2 ^ r) 1 == 1) = (((c : Int) == (a : Int) || (c : Int) == (b : Int)) != false) := hbit
        have hbit2' : (bits BinOp.and IntKind.u64 ((Q2.b : Int) / 2 ^ r) 1 == 1) = ((decide ((a : Int) ≤ (c : Int)) && decide ((c : Int) ≤ (b : Int))) != false) := hbit2
        have HB2 : Hid _ := hbit2'
        clear hbit hbit2 hbit2'
        by_cases hca : c = a
        · subst hca
          go_wp2_with fail
          all_goals
            refine Calls.mono (sound_one (H4.out.2.2.2.1.kp (kp_alloc _ _))) ?_
            rintro e w5 ⟨rfl, q⟩
            have k45 : Kp w4 w5 := kp_trans (kp_alloc _ _) q
            have H5 : Hid (Kp w w5) := kp_trans H4.out.1 k45
            obtain ⟨u0, u1, u2, u3⟩ := (H4.out.2.2.2.2.kp k45).cells
            have t0 := fun ob => ((H4.out.2.2.1.kp k45).kp (kp_alloc w5 ob)).cells.1
            have t1 := fun ob => ((H4.out.2.2.1.kp k45).kp (kp_alloc w5 ob)).cells.2.1
            obtain ⟨nb2, no2, rfl, g0, g2, g3, g4, g5⟩ := one_cells (H4.out.2.2.2.1.kp k45)
            have p0 := fun ob => kp_cell (kp_alloc w5 ob) (kp_cell k45 c0)
            have hb2 := HB2.out
            clear q k45 c0 c2 c3 c4 c5 y0 y1 y2 y3 z0 z1 z2 z3
            go_wp2_with fail
            all_goals
              go_ret
              exact ⟨by simp, kp_trans H5.out (kp_alloc _ _)⟩
        · have e1 : ((c : Int) == (a : Int)) = false := by simp; omega
          by_cases hcb : c = b
          · subst hcb
            go_wp2_with fail
            all_goals
              refine Calls.mono (sound_one (H4.out.2.2.2.1.kp (kp_alloc _ _))) ?_
              rintro e w5 ⟨rfl, q⟩
              have k45 : Kp w4 w5 := kp_trans (kp_alloc _ _) q
              have H5 : Hid (Kp w w5) := kp_trans H4.out.1 k45
              obtain ⟨u0, u1, u2, u3⟩ := (H4.out.2.2.2.2.kp k45).cells
              have t0 := fun ob => ((H4.out.2.2.1.kp k45).kp (kp_alloc w5 ob)).cells.1
              have t1 := fun ob => ((H4.out.2.2.1.kp k45).kp (kp_alloc w5 ob)).cells.2.1
              obtain ⟨nb2, no2, rfl, g0, g2, g3, g4, g5⟩ := one_cells (H4.out.2.2.2.1.kp k45)
              have p0 := fun ob => kp_cell (kp_alloc w5 ob) (kp_cell k45 c0)
              have hb2 := HB2.out
              clear q k45 c0 c2 c3 c4 c5 y0 y1 y2 y3 z0 z1 z2 z3
              go_wp2_with fail
              all_goals
                go_ret
                exact ⟨by simp, kp_trans H5.out (kp_alloc _ _)⟩
          · have e2 : ((c : Int) == (b : Int)) = false := by simp; omega
            clear hca hcb
            go_wp2_with fail
            all_goals
              refine Calls.mono (sound_one (H4.out.2.2.2.1.kp (kp_alloc _ _))) ?_
              rintro e w5 ⟨rfl, q⟩
              have k45 : Kp w4 w5 := kp_trans (kp_alloc _ _) q
              have H5 : Hid (Kp w w5) := kp_trans H4.out.1 k45
              obtain ⟨u0, u1, u2, u3⟩ := (H4.out.2.2.2.2.kp k45).cells
              have t0 := fun ob => ((H4.out.2.2.1.kp k45).kp (kp_alloc w5 ob)).cells.1
              have t1 := fun ob => ((H4.out.2.2.1.kp k45).kp (kp_alloc w5 ob)).cells.2.1
              obtain ⟨nb2, no2, rfl, g0, g2, g3, g4, g5⟩ := one_cells (H4.out.2.2.2.1.kp k45)
              have p0 := fun ob => kp_cell (kp_alloc w5 ob) (kp_cell k45 c0)
              have hb2 := HB2.out
              clear q k45 c0 c2 c3 c4 c5 y0 y1 y2 y3 z0 z1 z2 z3
              go_wp2_with fail
              all_goals
                go_ret
                exact ⟨by simp, kp_trans H5.out (kp_alloc _ _)⟩
      · have hbit' : (bits BinOp.and IntKind.u64 ((Q1.c : Int) / 2 ^ r) 1 == 1) = (((c : Int) == (a : Int) || (c : Int) == (b : Int)) != false) := hbit
        have hbit2' : (bits BinOp.and IntKind.u64 ((Q2.c : Int) / 2 ^ r) 1 == 1) = ((decide ((a : Int) ≤ (c : Int)) && decide ((c : Int) ≤ (b : Int))) != false) := hbit2
        have HB2 : Hid _ := hbit2'
        clear hbit hbit2 hbit2'
        by_cases hca : c = a
        · subst hca
          go_wp2_with fail
          all_goals
            refine Calls.mono (sound_one (H4.out.2.2.2.1.kp (kp_alloc _ _))) ?_
            rintro e w5 ⟨rfl, q⟩
            have k45 : Kp w4 w5 := kp_trans (kp_alloc _ _) q
            have H5 : Hid (Kp w w5) := kp_trans H4.out.1 k45
            obtain ⟨u0, u1, u2, u3⟩ := (H4.out.2.2.2.2.kp k45).cells
            have t0 := fun ob => ((H4.out.2.2.1.kp k45).kp (kp_alloc w5 ob)).cells.1
            have t1 := fun ob => ((H4.out.2.2.1.kp k45).kp (kp_alloc w5 ob)).cells.2.1
            obtain ⟨nb2, no2, rfl, g0, g2, g3, g4, g5⟩ := one_cells (H4.out.2.2.2.1.kp k45)
            have p0 := fun ob => kp_cell (kp_alloc w5 ob) (kp_cell k45 c0)
            have hb2 := HB2.out
            clear q k45 c0 c2 c3 c4 c5 y0 y1 y2 y3 z0 z1 z2 z3
            go_wp2_with fail
            all_goals
              go_ret
              exact ⟨by simp, kp_trans H5.out (kp_alloc _ _)⟩
        · have e1 : ((c : Int) == (a : Int)) = false := by simp; omega
          by_cases hcb : c = b
          · subst hcb
            go_wp2_with fail
            all_goals
              refine Calls.mono (sound_one (H4.out.2.2.2.1.kp (kp_alloc _ _))) ?_
              rintro e w5 ⟨rfl, q⟩
              have k45 : Kp w4 w5 := kp_trans (kp_alloc _ _) q
              have H5 : Hid (Kp w w5) := kp_trans H4.out.1 k45
              obtain ⟨u0, u1, u2, u3⟩ := (H4.out.2.2.2.2.kp k45).cells
              have t0 := fun ob => ((H4.out.2.2.1.kp k45).kp (kp_alloc w5 ob)).cells.1
              have t1 := fun ob => ((H4.out.2.2.1.kp k45).kp (kp_alloc w5 ob)).cells.2.1
              obtain ⟨nb2, no2, rfl, g0, g2, g3, g4, g5⟩ := one_cells (H4.out.2.2.2.1.kp k45)
              have p0 := fun ob => kp_cell (kp_alloc w5 ob) (kp_cell k45 c0)
              have hb2 := HB2.out
              clear q k45 c0 c2 c3 c4 c5 y0 y1 y2 y3 z0 z1 z2 z3
              go_wp2_with fail
              all_goals
                go_ret
                exact ⟨by simp, kp_trans H5.out (kp_alloc _ _)⟩
          · have e2 : ((c : Int) == (b : Int)) = false := by simp; omega
            clear hca hcb
            go_wp2_with fail
            all_goals
              refine Calls.mono (sound_one (H4.out.2.2.2.1.kp (kp_alloc _ _))) ?_
              rintro e w5 ⟨rfl, q⟩
              have k45 : Kp w4 w5 := kp_trans (kp_alloc _ _) q
              have H5 : Hid (Kp w w5) := kp_trans H4.out.1 k45
              obtain ⟨u0, u1, u2, u3⟩ := (H4.out.2.2.2.2.kp k45).cells
              have t0 := fun ob => ((H4.out.2.2.1.kp k45).kp (kp_alloc w5 ob)).cells.1
              have t1 := fun ob => ((H4.out.2.2.1.kp k45).kp (kp_alloc w5 ob)).cells.2.1
              obtain ⟨nb2, no2, rfl, g0, g2, g3, g4, g5⟩ := one_cells (H4.out.2.2.2.1.kp k45)
              have p0 := fun ob => kp_cell (kp_alloc w5 ob) (kp_cell k45 c0)
              have hb2 := HB2.out
              clear q k45 c0 c2 c3 c4 c5 y0 y1 y2 y3 z0 z1 z2 z3
              go_wp2_with fail
              all_goals
                go_ret
                exact ⟨by simp, kp_trans H5.out (kp_alloc _ _)⟩
      · have hbit' : (bits BinOp.and IntKind.u64 ((Q1.d : Int) / 2 ^ r) 1 == 1) = (((c : Int) == (a : Int) || (c : Int) == (b : Int)) != false) := hbit
        have hbit2' : (bits BinOp.and IntKind.u64 ((Q2.d : Int) / 2 ^ r) 1 == 1) = ((decide ((a : Int) ≤ (c : Int)) && decide ((c : Int) ≤ (b : Int))) != false) := hbit2
        have HB2 : Hid _ := hbit2'
        clear hbit hbit2 hbit2'
        by_cases hca : c = a
        · subst hca
          go_wp2_with fail
          all_goals
            refine Calls.mono (sound_one (H4.out.2.2.2.1.kp (kp_alloc _ _))) ?_
            rintro e w5 ⟨rfl, q⟩
            have k45 : Kp w4 w5 := kp_trans (kp_alloc _ _) q
            have H5 : Hid (Kp w w5) := kp_trans H4.out.1 k45
            obtain ⟨u0, u1, u2, u3⟩ := (H4.out.2.2.2.2.kp k45).cells
            have t0 := fun ob => ((H4.out.2.2.1.kp k45).kp (kp_alloc w5 ob)).cells.1
            have t1 := fun ob => ((H4.out.2.2.1.kp k45).kp (kp_alloc w5 ob)).cells.2.1
            obtain ⟨nb2, no2, rfl, g0, g2, g3, g4, g5⟩ := one_cells (H4.out.2.2.2.1.kp k45)
            have p0 := fun ob => kp_cell (kp_alloc w5 ob) (kp_cell k45 c0)
            have hb2 := HB2.out
            clear q k45 c0 c2 c3 c4 c5 y0 y1 y2 y3 z0 z1 z2 z3
            go_wp2_with fail
            all_goals
              go_ret
              exact ⟨by simp, kp_trans H5.out (kp_alloc _ _)⟩
        · have e1 : ((c : Int) == (a : Int)) = false := by simp; omega
          by_cases hcb : c = b
          · subst hcb
            go_wp2_with fail
            all_goals
              refine Calls.mono (sound_one (H4.out.2.2.2.1.kp (kp_alloc _ _))) ?_
              rintro e w5 ⟨rfl, q⟩
              have k45 : Kp w4 w5 := kp_trans (kp_alloc _ _) q
              have H5 : Hid (Kp w w5) := kp_trans H4.out.1 k45
              obtain ⟨u0, u1, u2, u3⟩ := (H4.out.2.2.2.2.kp k45).cells
              have t0 := fun ob => ((H4.out.2.2.1.kp k45).kp (kp_alloc w5 ob)).cells.1
              have t1 := fun ob => ((H4.out.2.2.1.kp k45).kp (kp_alloc w5 ob)).cells.2.1
              obtain ⟨nb2, no2, rfl, g0, g2, g3, g4, g5⟩ := one_cells (H4.out.2.2.2.1.kp k45)
              have p0 := fun ob => kp_cell (kp_alloc w5 ob) (kp_cell k45 c0)
              have hb2 := HB2.out
              clear q k45 c0 c2 c3 c4 c5 y0 y1 y2 y3 z0 z1 z2 z3
              go_wp2_with fail
              all_goals
                go_ret
                exact ⟨by simp, kp_trans H5.out (kp_alloc _ _)⟩
          · have e2 : ((c : Int) == (b : Int)) = false := by simp; omega
            clear hca hcb
            go_wp2_with fail
            all_goals
              refine Calls.mono (sound_one (H4.out.2.2.2.1.kp (kp_alloc _ _))) ?_
              rintro e w5 ⟨rfl, q⟩
              have k45 : Kp w4 w5 := kp_trans (kp_alloc _ _) q
              have H5 : Hid (Kp w w5) := kp_trans H4.out.1 k45
              obtain ⟨u0, u1, u2, u3⟩ := (H4.out.2.2.2.2.kp k45).cells
              have t0 := fun ob => ((H4.out.2.2.1.kp k45).kp (kp_alloc w5 ob)).cells.1
              have t1 := fun ob => ((H4.out.2.2.1.kp k45).kp (kp_alloc w5 ob)).cells.2.1
              obtain ⟨nb2, no2, rfl, g0, g2, g3, g4, g5⟩ := one_cells (H4.out.2.2.2.1.kp k45)
              have p0 := fun ob => kp_cell (kp_alloc w5 ob) (kp_cell k45 c0)
              have hb2 := HB2.out
              clear q k45 c0 c2 c3 c4 c5 y0 y1 y2 y3 z0 z1 z2 z3
              go_wp2_with fail
              all_goals
                go_ret
                exact ⟨by simp, kp_trans H5.out (kp_alloc _ _)⟩
  | true =>
    have hA0 := cat_run (show ([91] : List UInt8) ++ [94] = [91, 94] from rfl) (by simp)
    have hA1 := cat_run (show ([91, 94] : List UInt8) ++ [A, B] = [91, 94, A, B] from rfl) (by simp)
    have hA2 := cat_run (show ([91, 94, A, B] : List UInt8) ++ [93] = [91, 94, A, B, 93] from rfl) (by simp)
    have hA3 := cat_run (show ([91, 94] : List UInt8) ++ [A, 45, B] = [91, 94, A, 45, B] from rfl) (by simp)
    have hA4 := cat_run (show ([91, 94, A, 45, B] : List UInt8) ++ [93] = [91, 94, A, 45, B, 93] from rfl) (by simp)
    go_wp2_with fail
    refine Calls.mono (parse_ok ⟨#[91, 94, A, B, 93]⟩ ⟨#[]⟩ (HG.out.kp (kp_trans H1.out (kp_alloc _ _))) (HX.out true)) ?_
    rintro e w2 ⟨va, vc, rfl, q1, q2⟩
    obtain ⟨Q1, hQ1⟩ : ∃ Q, nt true (addTo (addTo zeroS a 1) b 1) = Q := ⟨_, rfl⟩
    have HQ1 : Hid (nt true (addTo (addTo zeroS a 1) b 1) = Q1) := hQ1
    rw [hQ1] at q1
    have H2 : Hid (Pt w2 (.slice va 1 vc) [Nd.q { op := 4, set := Q1 }] ∧ Kp w w2) := ⟨q1, kp_trans (kp_trans H1.out (kp_alloc _ _)) q2⟩
    clear q1 q2 hQ1
    simp only [List.length_cons, List.length_nil, Nat.zero_add]
    have hcv4 : (convert 40 9 (.slice (some ⟨w2.heap.size + 1, 0, none⟩) 3 3)).run Tryz.prog ((w2.alloc (.cells #[.slice va 1 vc, .int .i64 0, .int .i64 0, .int .u8 0] 24)).alloc (.cells #[.int .u8 a, .int .u8 45, .int .u8 b] 5)) = .ok (str [A, 45, B]) ((w2.alloc (.cells #[.slice va 1 vc, .int .i64 0, .int .i64 0, .int .u8 0] 24)).alloc (.cells #[.int .u8 a, .int .u8 45, .int .u8 b] 5)) := by
      have := hcv3 (w2.alloc (.cells #[.slice va 1 vc, .int .i64 0, .int .i64 0, .int .u8 0] 24))
      rw [alloc_size] at this
      exact this
    have hbit := word_bit (Q := Q1) (by rw [← HQ1.out]; exact nt_ok _ (addTo_ok (addTo_ok ok_zero (by omega)) (by omega))) hc
    rw [← HQ1.out, two_has true ha hb hc, HQ1.out] at hbit
    obtain ⟨j, hj⟩ : ∃ j, c / 64 = j := ⟨_, rfl⟩
    obtain ⟨r, hr⟩ : ∃ r, c % 64 = r := ⟨_, rfl⟩
    have q1 : (c : Int) / 64 = (j : Int) := by omega
    have q2 : (c : Int) % 64 = (r : Int) := by omega
    have hj4 : j = 0 ∨ j = 1 ∨ j = 2 ∨ j = 3 := by omega
    have hr64 : r < 64 := by omega
    by_cases hba : b < a
    · rw [hj, hr] at hbit
      have hdba : decide ((b : Int) < (a : Int)) = true := decide_eq_true (by omega)
      have HYn : Hid (see (parF ⟨#[91, 94, A, 45, B, 93]⟩ ⟨#[]⟩) = .error (30, 0)) := by have := HY.out true; rw [if_pos hba] at this; exact this
      go_wp2_with fail
      refine Calls.mono (parse_no ⟨#[91, 94, A, 45, B, 93]⟩ ⟨#[]⟩ (HG.out.kp (kp_trans (kp_trans H2.out.2 (kp_alloc _ _)) (kp_alloc _ _))) HYn.out) ?_
      rintro e w3 ⟨rfl, q⟩
      have k23 : Kp (w2.alloc (.cells #[.slice va 1 vc, .int .i64 0, .int .i64 0, .int .u8 0] 24)) w3 := kp_trans (kp_alloc _ _) q
      have H3 : Hid (Kp w w3 ∧ Pt w3 (.slice va 1 vc) [Nd.q { op := 4, set := Q1 }] ∧ PBox w2.heap.size (.slice va 1 vc) 0 0 0 w3) := ⟨kp_trans (kp_trans H2.out.2 (kp_alloc _ _)) k23, H2.out.1.kp (kp_trans (kp_alloc _ _) k23), (show PBox _ _ _ _ _ (w2.alloc _) from alloc_new w2 _).kp k23⟩
      clear q k23
      have y0 := fun ob => (H3.out.2.2.kp (kp_alloc w3 ob)).cells.1
      have y1 := fun ob => (H3.out.2.2.kp (kp_alloc w3 ob)).cells.2.1
      have y2 := fun ob => (H3.out.2.2.kp (kp_alloc w3 ob)).cells.2.2.1
      have y3 := fun ob => (H3.out.2.2.kp (kp_alloc w3 ob)).cells.2.2.2
      go_wp2_with fail
      refine Calls.mono (sound_one (H3.out.2.1.kp (kp_alloc _ _))) ?_
      rintro e w4 ⟨rfl, q⟩
      have H4 : Hid (Kp w w4 ∧ Pt w4 (.slice va 1 vc) [Nd.q { op := 4, set := Q1 }] ∧ PBox w2.heap.size (.slice va 1 vc) 0 0 0 w4) := ⟨kp_trans (kp_trans H3.out.1 (kp_alloc _ _)) q, H3.out.2.1.kp (kp_trans (kp_alloc _ _) q), H3.out.2.2.kp (kp_trans (kp_alloc _ _) q)⟩
      clear q y0 y1 y2 y3
      obtain ⟨y0, y1, y2, y3⟩ := H4.out.2.2.cells
      obtain ⟨nb, no, rfl, c0, c2, c3, c4, c5⟩ := one_cells H4.out.2.1
      clear hj hr hcv2 hcv3 hcv4 hA0 hA1 hA2 hA3 hA4
      rcases hj4 with rfl | rfl | rfl | rfl
      · have hbit' : (bits BinOp.and IntKind.u64 ((Q1.a : Int) / 2 ^ r) 1 == 1) = (((c : Int) == (a : Int) || (c : Int) == (b : Int)) != true) := hbit
        clear hbit
        go_wp2_with fail
        all_goals
          go_ret
          exact ⟨by simp, kp_trans H4.out.1 (kp_alloc _ _)⟩
      · have hbit' : (bits BinOp.and IntKind.u64 ((Q1.b : Int) / 2 ^ r) 1 == 1) = (((c : Int) == (a : Int) || (c : Int) == (b : Int)) != true) := hbit
        clear hbit
        go_wp2_with fail
        all_goals
          go_ret
          exact ⟨by simp, kp_trans H4.out.1 (kp_alloc _ _)⟩
      · have hbit' : (bits BinOp.and IntKind.u64 ((Q1.c : Int) / 2 ^ r) 1 == 1) = (((c : Int) == (a : Int) || (c : Int) == (b : Int)) != true) := hbit
        clear hbit
        go_wp2_with fail
        all_goals
          go_ret
          exact ⟨by simp, kp_trans H4.out.1 (kp_alloc _ _)⟩
      · have hbit' : (bits BinOp.and IntKind.u64 ((Q1.d : Int) / 2 ^ r) 1 == 1) = (((c : Int) == (a : Int) || (c : Int) == (b : Int)) != true) := hbit
        clear hbit
        go_wp2_with fail
        all_goals
          go_ret
          exact ⟨by simp, kp_trans H4.out.1 (kp_alloc _ _)⟩
    · have hbit2 := word_bit (Q := nt true (addTo zeroS a (b + 1 - a))) (nt_ok _ (addTo_ok ok_zero (by omega))) hc
      rw [span_has true ha hb hc (by omega)] at hbit2
      obtain ⟨Q2, hQ2⟩ : ∃ Q, nt true (addTo zeroS a (b + 1 - a)) = Q := ⟨_, rfl⟩
      rw [hQ2] at hbit2
      rw [hj, hr] at hbit hbit2
      have hdba : decide ((b : Int) < (a : Int)) = false := decide_eq_false (by omega)
      have HYn : Hid (see (parF ⟨#[91, 94, A, 45, B, 93]⟩ ⟨#[]⟩) = .ok (0, 0, 0, [{ op := 4, set := Q2 }])) := by have := HY.out true; rw [if_neg hba, hQ2] at this; exact this
      clear hQ2
      go_wp2_with fail
      refine Calls.mono (parse_ok ⟨#[91, 94, A, 45, B, 93]⟩ ⟨#[]⟩ (HG.out.kp (kp_trans (kp_trans H2.out.2 (kp_alloc _ _)) (kp_alloc _ _))) HYn.out) ?_
      rintro e w3 ⟨vb, vd, rfl, q', q⟩
      have k23 : Kp (w2.alloc (.cells #[.slice va 1 vc, .int .i64 0, .int .i64 0, .int .u8 0] 24)) w3 := kp_trans (kp_alloc _ _) q
      have H3 : Hid (Kp w w3 ∧ Pt w3 (.slice va 1 vc) [Nd.q { op := 4, set := Q1 }] ∧ PBox w2.heap.size (.slice va 1 vc) 0 0 0 w3 ∧ Pt w3 (.slice vb 1 vd) [Nd.q { op := 4, set := Q2 }]) := ⟨kp_trans (kp_trans H2.out.2 (kp_alloc _ _)) k23, H2.out.1.kp (kp_trans (kp_alloc _ _) k23), (show PBox _ _ _ _ _ (w2.alloc _) from alloc_new w2 _).kp k23, q'⟩
      clear q k23 q'
      simp only [List.length_cons, List.length_nil, Nat.zero_add]
      have y0 := fun ob => (H3.out.2.2.1.kp (kp_alloc w3 ob)).cells.1
      have y1 := fun ob => (H3.out.2.2.1.kp (kp_alloc w3 ob)).cells.2.1
      have y2 := fun ob => (H3.out.2.2.1.kp (kp_alloc w3 ob)).cells.2.2.1
      have y3 := fun ob => (H3.out.2.2.1.kp (kp_alloc w3 ob)).cells.2.2.2
      go_wp2_with fail
      refine Calls.mono (sound_one (H3.out.2.1.kp (kp_alloc _ _))) ?_
      rintro e w4 ⟨rfl, q⟩
      have H4 : Hid (Kp w w4 ∧ Pt w4 (.slice va 1 vc) [Nd.q { op := 4, set := Q1 }] ∧ PBox w2.heap.size (.slice va 1 vc) 0 0 0 w4 ∧ Pt w4 (.slice vb 1 vd) [Nd.q { op := 4, set := Q2 }] ∧ PBox w3.heap.size (.slice vb 1 vd) 0 0 0 w4) := ⟨kp_trans (kp_trans H3.out.1 (kp_alloc _ _)) q, H3.out.2.1.kp (kp_trans (kp_alloc _ _) q), H3.out.2.2.1.kp (kp_trans (kp_alloc _ _) q), H3.out.2.2.2.kp (kp_trans (kp_alloc _ _) q), (show PBox _ _ _ _ _ (w3.alloc _) from alloc_new w3 _).kp q⟩
      clear q y0 y1 y2 y3
      obtain ⟨y0, y1, y2, y3⟩ := H4.out.2.2.1.cells
      obtain ⟨nb, no, rfl, c0, c2, c3, c4, c5⟩ := one_cells H4.out.2.1
      have z0 := fun ob => (H4.out.2.2.2.2.kp (kp_alloc w4 ob)).cells.1
      have z1 := fun ob => (H4.out.2.2.2.2.kp (kp_alloc w4 ob)).cells.2.1
      have z2 := fun ob => (H4.out.2.2.2.2.kp (kp_alloc w4 ob)).cells.2.2.1
      have z3 := fun ob => (H4.out.2.2.2.2.kp (kp_alloc w4 ob)).cells.2.2.2
      clear hj hr hcv2 hcv3 hcv4 hA0 hA1 hA2 hA3 hA4
      rcases hj4 with rfl | rfl | rfl | rfl
      · have hbit' : (bits BinOp.and IntKind.u64 ((Q1.a : Int) / 2 ^ r) 1 == 1) = (((c : Int) == (a : Int) || (c : Int) == (b : Int)) != true) := hbit
        have hbit2' : (bits BinOp.and IntKind.u64 ((Q2.a : Int) / 2 ^ r) 1 == 1) = ((decide ((a : Int) ≤ (c : Int)) && decide ((c : Int) ≤ (b : Int))) != true) := hbit2
        have HB2 : Hid _ := hbit2'
        clear hbit hbit2 hbit2'
        by_cases hca : c = a
        · subst hca
          go_wp2_with fail
          all_goals
            refine Calls.mono (sound_one (H4.out.2.2.2.1.kp (kp_alloc _ _))) ?_
            rintro e w5 ⟨rfl, q⟩
            have k45 : Kp w4 w5 := kp_trans (kp_alloc _ _) q
            have H5 : Hid (Kp w w5) := kp_trans H4.out.1 k45
            obtain ⟨u0, u1, u2, u3⟩ := (H4.out.2.2.2.2.kp k45).cells
            have t0 := fun ob => ((H4.out.2.2.1.kp k45).kp (kp_alloc w5 ob)).cells.1
            have t1 := fun ob => ((H4.out.2.2.1.kp k45).kp (kp_alloc w5 ob)).cells.2.1
            obtain ⟨nb2, no2, rfl, g0, g2, g3, g4, g5⟩ := one_cells (H4.out.2.2.2.1.kp k45)
            have p0 := fun ob => kp_cell (kp_alloc w5 ob) (kp_cell k45 c0)
            have hb2 := HB2.out
            clear q k45 c0 c2 c3 c4 c5 y0 y1 y2 y3 z0 z1 z2 z3
            go_wp2_with fail
            all_goals
              go_ret
              exact ⟨by simp, kp_trans H5.out (kp_alloc _ _)⟩
        · have e1 : ((c : Int) == (a : Int)) = false := by simp; omega
          by_cases hcb : c = b
          · subst hcb
            go_wp2_with fail
            all_goals
              refine Calls.mono (sound_one (H4.out.2.2.2.1.kp (kp_alloc _ _))) ?_
              rintro e w5 ⟨rfl, q⟩
              have k45 : Kp w4 w5 := kp_trans (kp_alloc _ _) q
              have H5 : Hid (Kp w w5) := kp_trans H4.out.1 k45
              obtain ⟨u0, u1, u2, u3⟩ := (H4.out.2.2.2.2.kp k45).cells
              have t0 := fun ob => ((H4.out.2.2.1.kp k45).kp (kp_alloc w5 ob)).cells.1
              have t1 := fun ob => ((H4.out.2.2.1.kp k45).kp (kp_alloc w5 ob)).cells.2.1
              obtain ⟨nb2, no2, rfl, g0, g2, g3, g4, g5⟩ := one_cells (H4.out.2.2.2.1.kp k45)
              have p0 := fun ob => kp_cell (kp_alloc w5 ob) (kp_cell k45 c0)
              have hb2 := HB2.out
              clear q k45 c0 c2 c3 c4 c5 y0 y1 y2 y3 z0 z1 z2 z3
              go_wp2_with fail
              all_goals
                go_ret
                exact ⟨by simp, kp_trans H5.out (kp_alloc _ _)⟩
          · have e2 : ((c : Int) == (b : Int)) = false := by simp; omega
            clear hca hcb
            go_wp2_with fail
            all_goals
              refine Calls.mono (sound_one (H4.out.2.2.2.1.kp (kp_alloc _ _))) ?_
              rintro e w5 ⟨rfl, q⟩
              have k45 : Kp w4 w5 := kp_trans (kp_alloc _ _) q
              have H5 : Hid (Kp w w5) := kp_trans H4.out.1 k45
              obtain ⟨u0, u1, u2, u3⟩ := (H4.out.2.2.2.2.kp k45).cells
              have t0 := fun ob => ((H4.out.2.2.1.kp k45).kp (kp_alloc w5 ob)).cells.1
              have t1 := fun ob => ((H4.out.2.2.1.kp k45).kp (kp_alloc w5 ob)).cells.2.1
              obtain ⟨nb2, no2, rfl, g0, g2, g3, g4, g5⟩ := one_cells (H4.out.2.2.2.1.kp k45)
              have p0 := fun ob => kp_cell (kp_alloc w5 ob) (kp_cell k45 c0)
              have hb2 := HB2.out
              clear q k45 c0 c2 c3 c4 c5 y0 y1 y2 y3 z0 z1 z2 z3
              go_wp2_with fail
              all_goals
                go_ret
                exact ⟨by simp, kp_trans H5.out (kp_alloc _ _)⟩
      · have hbit' : (bits BinOp.and IntKind.u64 ((Q1.b : Int) / 2 ^ r) 1 == 1) = (((c : Int) == (a : Int) || (c : Int) == (b : Int)) != true) := hbit
        have hbit2' : (bits BinOp.and IntKind.u64 ((Q2.b : Int) / 2 ^ r) 1 == 1) = ((decide ((a : Int) ≤ (c : Int)) && decide ((c : Int) ≤ (b : Int))) != true) := hbit2
        have HB2 : Hid _ := hbit2'
        clear hbit hbit2 hbit2'
        by_cases hca : c = a
        · subst hca
          go_wp2_with fail
          all_goals
            refine Calls.mono (sound_one (H4.out.2.2.2.1.kp (kp_alloc _ _))) ?_
            rintro e w5 ⟨rfl, q⟩
            have k45 : Kp w4 w5 := kp_trans (kp_alloc _ _) q
            have H5 : Hid (Kp w w5) := kp_trans H4.out.1 k45
            obtain ⟨u0, u1, u2, u3⟩ := (H4.out.2.2.2.2.kp k45).cells
            have t0 := fun ob => ((H4.out.2.2.1.kp k45).kp (kp_alloc w5 ob)).cells.1
            have t1 := fun ob => ((H4.out.2.2.1.kp k45).kp (kp_alloc w5 ob)).cells.2.1
            obtain ⟨nb2, no2, rfl, g0, g2, g3, g4, g5⟩ := one_cells (H4.out.2.2.2.1.kp k45)
            have p0 := fun ob => kp_cell (kp_alloc w5 ob) (kp_cell k45 c0)
            have hb2 := HB2.out
            clear q k45 c0 c2 c3 c4 c5 y0 y1 y2 y3 z0 z1 z2 z3
            go_wp2_with fail
            all_goals
              go_ret
              exact ⟨by simp, kp_trans H5.out (kp_alloc _ _)⟩
        · have e1 : ((c : Int) == (a : Int)) = false := by simp; omega
          by_cases hcb : c = b
          · subst hcb
            go_wp2_with fail
            all_goals
              refine Calls.mono (sound_one (H4.out.2.2.2.1.kp (kp_alloc _ _))) ?_
              rintro e w5 ⟨rfl, q⟩
              have k45 : Kp w4 w5 := kp_trans (kp_alloc _ _) q
              have H5 : Hid (Kp w w5) := kp_trans H4.out.1 k45
              obtain ⟨u0, u1, u2, u3⟩ := (H4.out.2.2.2.2.kp k45).cells
              have t0 := fun ob => ((H4.out.2.2.1.kp k45).kp (kp_alloc w5 ob)).cells.1
              have t1 := fun ob => ((H4.out.2.2.1.kp k45).kp (kp_alloc w5 ob)).cells.2.1
              obtain ⟨nb2, no2, rfl, g0, g2, g3, g4, g5⟩ := one_cells (H4.out.2.2.2.1.kp k45)
              have p0 := fun ob => kp_cell (kp_alloc w5 ob) (kp_cell k45 c0)
              have hb2 := HB2.out
              clear q k45 c0 c2 c3 c4 c5 y0 y1 y2 y3 z0 z1 z2 z3
              go_wp2_with fail
              all_goals
                go_ret
                exact ⟨by simp, kp_trans H5.out (kp_alloc _ _)⟩
          · have e2 : ((c : Int) == (b : Int)) = false := by simp; omega
            clear hca hcb
            go_wp2_with fail
            all_goals
              refine Calls.mono (sound_one (H4.out.2.2.2.1.kp (kp_alloc _ _))) ?_
              rintro e w5 ⟨rfl, q⟩
              have k45 : Kp w4 w5 := kp_trans (kp_alloc _ _) q
              have H5 : Hid (Kp w w5) := kp_trans H4.out.1 k45
              obtain ⟨u0, u1, u2, u3⟩ := (H4.out.2.2.2.2.kp k45).cells
              have t0 := fun ob => ((H4.out.2.2.1.kp k45).kp (kp_alloc w5 ob)).cells.1
              have t1 := fun ob => ((H4.out.2.2.1.kp k45).kp (kp_alloc w5 ob)).cells.2.1
              obtain ⟨nb2, no2, rfl, g0, g2, g3, g4, g5⟩ := one_cells (H4.out.2.2.2.1.kp k45)
              have p0 := fun ob => kp_cell (kp_alloc w5 ob) (kp_cell k45 c0)
              have hb2 := HB2.out
              clear q k45 c0 c2 c3 c4 c5 y0 y1 y2 y3 z0 z1 z2 z3
              go_wp2_with fail
              all_goals
                go_ret
                exact ⟨by simp, kp_trans H5.out (kp_alloc _ _)⟩
      · have hbit' : (bits BinOp.and IntKind.u64 ((Q1.c : Int) / 2 ^ r) 1 == 1) = (((c : Int) == (a : Int) || (c : Int) == (b : Int)) != true) := hbit
        have hbit2' : (bits BinOp.and IntKind.u64 ((Q2.c : Int) / 2 ^ r) 1 == 1) = ((decide ((a : Int) ≤ (c : Int)) && decide ((c : Int) ≤ (b : Int))) != true) := hbit2
        have HB2 : Hid _ := hbit2'
        clear hbit hbit2 hbit2'
        by_cases hca : c = a
        · subst hca
          go_wp2_with fail
          all_goals
            refine Calls.mono (sound_one (H4.out.2.2.2.1.kp (kp_alloc _ _))) ?_
            rintro e w5 ⟨rfl, q⟩
            have k45 : Kp w4 w5 := kp_trans (kp_alloc _ _) q
            have H5 : Hid (Kp w w5) := kp_trans H4.out.1 k45
            obtain ⟨u0, u1, u2, u3⟩ := (H4.out.2.2.2.2.kp k45).cells
            have t0 := fun ob => ((H4.out.2.2.1.kp k45).kp (kp_alloc w5 ob)).cells.1
            have t1 := fun ob => ((H4.out.2.2.1.kp k45).kp (kp_alloc w5 ob)).cells.2.1
            obtain ⟨nb2, no2, rfl, g0, g2, g3, g4, g5⟩ := one_cells (H4.out.2.2.2.1.kp k45)
            have p0 := fun ob => kp_cell (kp_alloc w5 ob) (kp_cell k45 c0)
            have hb2 := HB2.out
            clear q k45 c0 c2 c3 c4 c5 y0 y1 y2 y3 z0 z1 z2 z3
            go_wp2_with fail
            all_goals
              go_ret
              exact ⟨by simp, kp_trans H5.out (kp_alloc _ _)⟩
        · have e1 : ((c : Int) == (a : Int)) = false := by simp; omega
          by_cases hcb : c = b
          · subst hcb
            go_wp2_with fail
            all_goals
              refine Calls.mono (sound_one (H4.out.2.2.2.1.kp (kp_alloc _ _))) ?_
              rintro e w5 ⟨rfl, q⟩
              have k45 : Kp w4 w5 := kp_trans (kp_alloc _ _) q
              have H5 : Hid (Kp w w5) := kp_trans H4.out.1 k45
              obtain ⟨u0, u1, u2, u3⟩ := (H4.out.2.2.2.2.kp k45).cells
              have t0 := fun ob => ((H4.out.2.2.1.kp k45).kp (kp_alloc w5 ob)).cells.1
              have t1 := fun ob => ((H4.out.2.2.1.kp k45).kp (kp_alloc w5 ob)).cells.2.1
              obtain ⟨nb2, no2, rfl, g0, g2, g3, g4, g5⟩ := one_cells (H4.out.2.2.2.1.kp k45)
              have p0 := fun ob => kp_cell (kp_alloc w5 ob) (kp_cell k45 c0)
              have hb2 := HB2.out
              clear q k45 c0 c2 c3 c4 c5 y0 y1 y2 y3 z0 z1 z2 z3
              go_wp2_with fail
              all_goals
                go_ret
                exact ⟨by simp, kp_trans H5.out (kp_alloc _ _)⟩
          · have e2 : ((c : Int) == (b : Int)) = false := by simp; omega
            clear hca hcb
            go_wp2_with fail
            all_goals
              refine Calls.mono (sound_one (H4.out.2.2.2.1.kp (kp_alloc _ _))) ?_
              rintro e w5 ⟨rfl, q⟩
              have k45 : Kp w4 w5 := kp_trans (kp_alloc _ _) q
              have H5 : Hid (Kp w w5) := kp_trans H4.out.1 k45
              obtain ⟨u0, u1, u2, u3⟩ := (H4.out.2.2.2.2.kp k45).cells
              have t0 := fun ob => ((H4.out.2.2.1.kp k45).kp (kp_alloc w5 ob)).cells.1
              have t1 := fun ob => ((H4.out.2.2.1.kp k45).kp (kp_alloc w5 ob)).cells.2.1
              obtain ⟨nb2, no2, rfl, g0, g2, g3, g4, g5⟩ := one_cells (H4.out.2.2.2.1.kp k45)
              have p0 := fun ob => kp_cell (kp_alloc w5 ob) (kp_cell k45 c0)
              have hb2 := HB2.out
              clear q k45 c0 c2 c3 c4 c5 y0 y1 y2 y3 z0 z1 z2 z3
              go_wp2_with fail
              all_goals
                go_ret
                exact ⟨by simp, kp_trans H5.out (kp_alloc _ _)⟩
      · have hbit' : (bits BinOp.and IntKind.u64 ((Q1.d : Int) / 2 ^ r) 1 == 1) = (((c : Int) == (a : Int) || (c : Int) == (b : Int)) != true) := hbit
        have hbit2' : (bits BinOp.and IntKind.u64 ((Q2.d : Int) / 2 ^ r) 1 == 1) = ((decide ((a : Int) ≤ (c : Int)) && decide ((c : Int) ≤ (b : Int))) != true) := hbit2
        have HB2 : Hid _ := hbit2'
        clear hbit hbit2 hbit2'
        by_cases hca : c = a
        · subst hca
          go_wp2_with fail
          all_goals
            refine Calls.mono (sound_one (H4.out.2.2.2.1.kp (kp_alloc _ _))) ?_
            rintro e w5 ⟨rfl, q⟩
            have k45 : Kp w4 w5 := kp_trans (kp_alloc _ _) q
            have H5 : Hid (Kp w w5) := kp_trans H4.out.1 k45
            obtain ⟨u0, u1, u2, u3⟩ := (H4.out.2.2.2.2.kp k45).cells
            have t0 := fun ob => ((H4.out.2.2.1.kp k45).kp (kp_alloc w5 ob)).cells.1
            have t1 := fun ob => ((H4.out.2.2.1.kp k45).kp (kp_alloc w5 ob)).cells.2.1
            obtain ⟨nb2, no2, rfl, g0, g2, g3, g4, g5⟩ := one_cells (H4.out.2.2.2.1.kp k45)
            have p0 := fun ob => kp_cell (kp_alloc w5 ob) (kp_cell k45 c0)
            have hb2 := HB2.out
            clear q k45 c0 c2 c3 c4 c5 y0 y1 y2 y3 z0 z1 z2 z3
            go_wp2_with fail
            all_goals
              go_ret
              exact ⟨by simp, kp_trans H5.out (kp_alloc _ _)⟩
        · have e1 : ((c : Int) == (a : Int)) = false := by simp; omega
          by_cases hcb : c = b
          · subst hcb
            go_wp2_with fail
            all_goals
              refine Calls.mono (sound_one (H4.out.2.2.2.1.kp (kp_alloc _ _))) ?_
              rintro e w5 ⟨rfl, q⟩
              have k45 : Kp w4 w5 := kp_trans (kp_alloc _ _) q
              have H5 : Hid (Kp w w5) := kp_trans H4.out.1 k45
              obtain ⟨u0, u1, u2, u3⟩ := (H4.out.2.2.2.2.kp k45).cells
              have t0 := fun ob => ((H4.out.2.2.1.kp k45).kp (kp_alloc w5 ob)).cells.1
              have t1 := fun ob => ((H4.out.2.2.1.kp k45).kp (kp_alloc w5 ob)).cells.2.1
              obtain ⟨nb2, no2, rfl, g0, g2, g3, g4, g5⟩ := one_cells (H4.out.2.2.2.1.kp k45)
              have p0 := fun ob => kp_cell (kp_alloc w5 ob) (kp_cell k45 c0)
              have hb2 := HB2.out
              clear q k45 c0 c2 c3 c4 c5 y0 y1 y2 y3 z0 z1 z2 z3
              go_wp2_with fail
              all_goals
                go_ret
                exact ⟨by simp, kp_trans H5.out (kp_alloc _ _)⟩
          · have e2 : ((c : Int) == (b : Int)) = false := by simp; omega
            clear hca hcb
            go_wp2_with fail
            all_goals
              refine Calls.mono (sound_one (H4.out.2.2.2.1.kp (kp_alloc _ _))) ?_
              rintro e w5 ⟨rfl, q⟩
              have k45 : Kp w4 w5 := kp_trans (kp_alloc _ _) q
              have H5 : Hid (Kp w w5) := kp_trans H4.out.1 k45
              obtain ⟨u0, u1, u2, u3⟩ := (H4.out.2.2.2.2.kp k45).cells
              have t0 := fun ob => ((H4.out.2.2.1.kp k45).kp (kp_alloc w5 ob)).cells.1
              have t1 := fun ob => ((H4.out.2.2.1.kp k45).kp (kp_alloc w5 ob)).cells.2.1
              obtain ⟨nb2, no2, rfl, g0, g2, g3, g4, g5⟩ := one_cells (H4.out.2.2.2.1.kp k45)
              have p0 := fun ob => kp_cell (kp_alloc w5 ob) (kp_cell k45 c0)
              have hb2 := HB2.out
              clear q k45 c0 c2 c3 c4 c5 y0 y1 y2 y3 z0 z1 z2 z3
              go_wp2_with fail
              all_goals
                go_ret
                exact ⟨by simp, kp_trans H5.out (kp_alloc _ _)⟩
end
end Go.Proofs.YthloemacfdgjjaaGreatDoor
