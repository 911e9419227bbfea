/- Texts that the proof of the law stands on: QH, QJ, QR, QM, QN, QO, QS, QZ. -/
import Derived.Test.YtmceophmdkcgcaaPartA
import Derived.Laws.Bits64
import Derived.Laws.Bits64b
/- Sorted by a heap. -/
namespace Go.Proofs.Ytmceophmdkcgcaa
open Go.ChangeShapes Go.WideShapes Go.ChangeAt Go.RowKit Go.Sort
set_option linter.unusedVariables false
set_option linter.unusedSimpArgs false
section
variable {g : Nat} {d : Array Int} {w w1 : World}
theorem sift_end {hi f r : Nat} (h : 2 * r + 1 ≥ hi) : siftDown ltZ hi f r d = d := by unfold siftDown; rw [dif_pos h]
theorem sift_lo {hi f r : Nat} (h : ¬ 2 * r + 1 ≥ hi) (h2 : (decide (2 * r + 1 + 1 < hi) && ltZ d[f + (2 * r + 1)]! d[f + (2 * r + 1) + 1]!) = false) :
    siftDown ltZ hi f r d = if !ltZ d[f + r]! d[f + (2 * r + 1)]! then d else siftDown ltZ hi f (2 * r + 1) (swp d (f + r) (f + (2 * r + 1))) := by
  conv => lhs; unfold siftDown
  rw [dif_neg h, h2]; rfl
theorem sift_up {hi f r : Nat} (h : ¬ 2 * r + 1 ≥ hi) (h2 : (decide (2 * r + 1 + 1 < hi) && ltZ d[f + (2 * r + 1)]! d[f + (2 * r + 1) + 1]!) = true) :
    siftDown ltZ hi f r d = if !ltZ d[f + r]! d[f + (2 * r + 2)]! then d else siftDown ltZ hi f (2 * r + 2) (swp d (f + r) (f + (2 * r + 2))) := by
  conv => lhs; unfold siftDown
  rw [dif_neg h, if_pos h2]
  split
  · rfl
  · rw [dif_pos (by simp at h2; omega)]
set_option maxHeartbeats 16000000 in
set_option maxRecDepth 100000 in
theorem sift_any {n lo hi f cap : Nat} (h : Rw g d w) (hn : d.size = n) (hb : f + hi ≤ n) (hlo : lo ≤ n) (hn2 : n ≤ 1000) :
    Calls Try.prog 50 #[.slice (some ⟨g, 0, none⟩) n cap, .int .i64 lo, .int .i64 hi, .int .i64 f] w fun e w' => e = .returned (.tuple #[]) ∧ Rw g (siftDown ltZ hi f lo d) w' ∧ Fr (On g) w w' := by
  have H0 : Hid (Rw g d w ∧ d.size = n) := ⟨h, hn⟩
  clear h hn
  go_enter Try.func50, Try.ntmps50
  go_wp2_with fail
  go_loopw [8] (fun v8 wr => ∃ (r : Nat) (e : Array Int), v8 = .int .i64 r ∧ r ≤ n ∧ Hid (e.size = n ∧ Rw g e wr ∧ Fr (On g) w wr ∧ siftDown ltZ hi f r e = siftDown ltZ hi f lo d)) (fun v8 _ => n - (intOf v8).toNat)
  case atStart => exact ⟨lo, d, rfl, hlo, H0.out.2, H0.out.1, Fr.refl _ _, rfl⟩
  case round =>
    obtain ⟨r, e, rfl, hr, HI⟩ := hrel
    clear H0
    obtain ⟨c, hc⟩ : ∃ c, c = 2 * r + 1 := ⟨_, rfl⟩
    have u1 : 2 * (r : Int) + 1 = (c : Int) := by omega
    by_cases q : c ≥ hi
    · have d1 : decide ((c : Int) ≥ (hi : Int)) = true := decide_eq_true (by omega)
      have d2 : decide ((hi : Int) ≤ (c : Int)) = true := decide_eq_true (by omega)
      have d3 : decide (hi ≤ c) = true := decide_eq_true (by omega)
      have HE : Hid (Rw g (siftDown ltZ hi f lo d) wr ∧ Fr (On g) w wr) := by
        rw [← HI.out.2.2.2, sift_end (by omega)]; exact ⟨HI.out.2.1, HI.out.2.2.1⟩
      clear HI q hc
      go_wp2_with fail
      first | go_end0 | refine bodyPost_ret (results_none rfl _ _ _) rfl ?_
      exact ⟨rfl, HE.out⟩
    · have d1 : decide ((c : Int) ≥ (hi : Int)) = false := decide_eq_false (by omega)
      have d2 : decide ((hi : Int) ≤ (c : Int)) = false := decide_eq_false (by omega)
      have d3 : decide (hi ≤ c) = false := decide_eq_false (by omega)
      obtain ⟨c2, hc2⟩ : ∃ c2, c2 = c + 1 := ⟨_, rfl⟩
      obtain ⟨p, hp⟩ : ∃ p, p = f + c := ⟨_, rfl⟩
      obtain ⟨p2, hp2⟩ : ∃ p2, p2 = f + c2 := ⟨_, rfl⟩
      obtain ⟨o, ho⟩ : ∃ o, o = f + r := ⟨_, rfl⟩
      have u2 : (c : Int) + 1 = (c2 : Int) := by omega
      have u3 : (f : Int) + (c : Int) = (p : Int) := by omega
      have u4 : (p : Int) + 1 = (p2 : Int) := by omega
      have u5 : (f : Int) + (c2 : Int) = (p2 : Int) := by omega
      have u6 : (f : Int) + (r : Int) = (o : Int) := by omega
      have hsz := HI.out.1
      have l1 : p < n := by omega
      have l2 : o < n := by omega
      have c1 := HI.out.2.1.cell (i := p) (by omega)
      have c3 := HI.out.2.1.cell (i := o) (by omega)
      obtain ⟨x, hx⟩ : ∃ x, e[p]! = x := ⟨_, rfl⟩
      obtain ⟨z, hz⟩ : ∃ z, e[o]! = z := ⟨_, rfl⟩
      rw [hx] at c1
      rw [hz] at c3
      have HN : Hid (c = 2 * r + 1 ∧ c2 = c + 1 ∧ p = f + c ∧ p2 = f + c2 ∧ o = f + r ∧ ¬ c ≥ hi ∧ e[p]! = x ∧ e[o]! = z) := ⟨hc, hc2, hp, hp2, ho, q, hx, hz⟩
      clear hc hc2 hp hp2 ho q hx hz hsz
      by_cases q2 : c2 < hi
      · have d4 : decide ((c2 : Int) < (hi : Int)) = true := decide_eq_true (by omega)
        have d5 : decide (c2 < hi) = true := decide_eq_true (by omega)
        have l3 : p2 < n := by have := HN.out; omega
        have cy := HI.out.2.1.cell (i := p2) (by have := HI.out.1; omega)
        obtain ⟨y, hy⟩ : ∃ y, e[p2]! = y := ⟨_, rfl⟩
        rw [hy] at cy
        have HY : Hid (e[p2]! = y ∧ c2 < hi) := ⟨hy, q2⟩
        clear hy q2
        cases hl : ltZ x y with
        | false =>
          have HS : Hid (siftDown ltZ hi f r e = if !ltZ z x then e else siftDown ltZ hi f c (swp e o p)) := by
            obtain ⟨n1, n2, n3, n4, n5, n6, n7, n8⟩ := HN.out
            have := sift_lo (d := e) (hi := hi) (f := f) (r := r) (by omega) (by rw [← n1, ← n3, n7, show p + 1 = p2 by omega, HY.out.1, hl, Bool.and_false])
            rw [this, ← n1, ← n3, ← n5, n7, n8]; exact rfl
          cases hm : ltZ z x with
          | false =>
            have HE : Hid (∀ m, Rw g (siftDown ltZ hi f lo d) (wr.drewN m) ∧ Fr (On g) w (wr.drewN m)) := fun m => by
              obtain ⟨n1, n2, n3, n4, n5, n6, n7, n8⟩ := HN.out
              have e0 : siftDown ltZ hi f lo d = e := by rw [← HI.out.2.2.2, HS.out, hm]; rfl
              rw [e0]; exact ⟨HI.out.2.1.drew m, HI.out.2.2.1.trans (Fr.drewN _ _ _)⟩
            go_wp2_with fail
            go_quiet ((go_at_call 45; have HC := less_any x y; rw [hl] at HC; exact Calls.quiet_of_same (HC _)))
            go_wp2_with fail
            obtain ⟨w5, hw5⟩ : ∃ w5, wr.drewN nq = w5 := ⟨_, rfl⟩
            have R5 := HI.out.2.1.drew nq
            replace c1 := kp_cell (kp_drewN wr nq) c1
            replace c3 := kp_cell (kp_drewN wr nq) c3
            have HQ : Hid (wr.drewN nq = w5) := hw5
            rw [hw5] at c1 c3 R5 ⊢
            clear hw5
            go_quiet ((go_at_call 45; have HC := less_any z x; rw [hm] at HC; exact Calls.quiet_of_same (HC _)))
            have HE2 : Hid (∀ m, Rw g (siftDown ltZ hi f lo d) (w5.drewN m) ∧ Fr (On g) w (w5.drewN m)) := fun m => by rw [← HQ.out, drew2]; exact HE.out _
            clear HE HQ HI HN R5 c1 c3
            go_wp2_with fail
            first | go_end0 | refine bodyPost_ret (results_none rfl _ _ _) rfl ?_
            exact ⟨rfl, HE2.out _⟩
          | true =>
            have HE : Hid (∀ m m', Hid ((swp e o p).size = n ∧ Rw g (swp e o p) ((((wr.drewN m).setCell ⟨g, o, none⟩ (.int .u8 x)).setCell ⟨g, p, none⟩ (.int .u8 z)).drewN m') ∧ Fr (On g) w ((((wr.drewN m).setCell ⟨g, o, none⟩ (.int .u8 x)).setCell ⟨g, p, none⟩ (.int .u8 z)).drewN m') ∧ siftDown ltZ hi f c (swp e o p) = siftDown ltZ hi f lo d)) := fun m m' => by
              obtain ⟨q1, q2⟩ := (HI.out.2.1.drew m).swp (i := o) (j := p) HN.out.2.2.2.2.2.2.1 HN.out.2.2.2.2.2.2.2 m'
              refine ⟨by rw [size_swp]; exact HI.out.1, q1, (HI.out.2.2.1.trans (Fr.drewN _ _ _)).trans q2, ?_⟩
              rw [← HI.out.2.2.2, HS.out, hm]; rfl
            go_wp2_with fail
            go_quiet ((go_at_call 45; have HC := less_any x y; rw [hl] at HC; exact Calls.quiet_of_same (HC _)))
            go_wp2_with fail
            obtain ⟨w5, hw5⟩ : ∃ w5, wr.drewN nq = w5 := ⟨_, rfl⟩
            have R5 := HI.out.2.1.drew nq
            replace c1 := kp_cell (kp_drewN wr nq) c1
            replace c3 := kp_cell (kp_drewN wr nq) c3
            have HQ : Hid (wr.drewN nq = w5) := hw5
            rw [hw5] at c1 c3 R5 ⊢
            clear hw5
            go_quiet ((go_at_call 45; have HC := less_any z x; rw [hm] at HC; exact Calls.quiet_of_same (HC _)))
            obtain ⟨w6, hw6⟩ : ∃ w6, w5.drewN nq = w6 := ⟨_, rfl⟩
            replace R5 := R5.drew nq
            replace c1 := kp_cell (kp_drewN w5 nq) c1
            replace c3 := kp_cell (kp_drewN w5 nq) c3
            rw [hw6] at c1 c3 R5 ⊢
            have f1 := R5.fz o
            have f2 := R5.fz p
            have HE2 : Hid (∀ m', Hid ((swp e o p).size = n ∧ Rw g (swp e o p) (((w6.setCell ⟨g, o, none⟩ (.int .u8 x)).setCell ⟨g, p, none⟩ (.int .u8 z)).drewN m') ∧ Fr (On g) w (((w6.setCell ⟨g, o, none⟩ (.int .u8 x)).setCell ⟨g, p, none⟩ (.int .u8 z)).drewN m') ∧ siftDown ltZ hi f c (swp e o p) = siftDown ltZ hi f lo d)) := fun m' => by rw [← hw6, ← HQ.out, drew2]; exact HE.out _ _
            have hne : o ≠ p := by have := HN.out; omega
            clear hw6 HE HQ HI R5 HS hm
            go_wp2_with fail
            go_region
            go_wp2_with fail
            have := HN.out
            exact ⟨⟨c, swp e o p, rfl, by omega, HE2.out 1⟩, by simp only [intOf]; omega⟩
        | true =>
          have HS : Hid (siftDown ltZ hi f r e = if !ltZ z y then e else siftDown ltZ hi f c2 (swp e o p2)) := by
            obtain ⟨n1, n2, n3, n4, n5, n6, n7, n8⟩ := HN.out
            have h1 := HY.out.2
            have := sift_up (d := e) (hi := hi) (f := f) (r := r) (by omega) (by rw [← n1, ← n3, n7, show p + 1 = p2 by omega, HY.out.1, hl, show c + 1 = c2 by omega, decide_eq_true h1]; rfl)
            rw [this, show 2 * r + 2 = c2 by omega, ← n4, ← n5, n8, HY.out.1]; exact rfl
          cases hm : ltZ z y with
          | false =>
            have HE : Hid (∀ m, Rw g (siftDown ltZ hi f lo d) (wr.drewN m) ∧ Fr (On g) w (wr.drewN m)) := fun m => by
              obtain ⟨n1, n2, n3, n4, n5, n6, n7, n8⟩ := HN.out
              have e0 : siftDown ltZ hi f lo d = e := by rw [← HI.out.2.2.2, HS.out, hm]; rfl
              rw [e0]; exact ⟨HI.out.2.1.drew m, HI.out.2.2.1.trans (Fr.drewN _ _ _)⟩
            go_wp2_with fail
            go_quiet ((go_at_call 45; have HC := less_any x y; rw [hl] at HC; exact Calls.quiet_of_same (HC _)))
            go_wp2_with fail
            obtain ⟨w5, hw5⟩ : ∃ w5, wr.drewN nq = w5 := ⟨_, rfl⟩
            have R5 := HI.out.2.1.drew nq
            replace c1 := kp_cell (kp_drewN wr nq) c1
            replace c3 := kp_cell (kp_drewN wr nq) c3
            replace cy := kp_cell (kp_drewN wr nq) cy
            have HQ : Hid (wr.drewN nq = w5) := hw5
            rw [hw5] at c1 c3 cy R5 ⊢
            clear hw5
            go_quiet ((go_at_call 45; have HC := less_any z y; rw [hm] at HC; exact Calls.quiet_of_same (HC _)))
            have HE2 : Hid (∀ m, Rw g (siftDown ltZ hi f lo d) (w5.drewN m) ∧ Fr (On g) w (w5.drewN m)) := fun m => by rw [← HQ.out, drew2]; exact HE.out _
            clear HE HQ HI HN R5 c1 c3 cy
            go_wp2_with fail
            first | go_end0 | refine bodyPost_ret (results_none rfl _ _ _) rfl ?_
            exact ⟨rfl, HE2.out _⟩
          | true =>
            have HE : Hid (∀ m m', Hid ((swp e o p2).size = n ∧ Rw g (swp e o p2) ((((wr.drewN m).setCell ⟨g, o, none⟩ (.int .u8 y)).setCell ⟨g, p2, none⟩ (.int .u8 z)).drewN m') ∧ Fr (On g) w ((((wr.drewN m).setCell ⟨g, o, none⟩ (.int .u8 y)).setCell ⟨g, p2, none⟩ (.int .u8 z)).drewN m') ∧ siftDown ltZ hi f c2 (swp e o p2) = siftDown ltZ hi f lo d)) := fun m m' => by
              obtain ⟨q1, q2⟩ := (HI.out.2.1.drew m).swp (i := o) (j := p2) HY.out.1 HN.out.2.2.2.2.2.2.2 m'
              refine ⟨by rw [size_swp]; exact HI.out.1, q1, (HI.out.2.2.1.trans (Fr.drewN _ _ _)).trans q2, ?_⟩
              rw [← HI.out.2.2.2, HS.out, hm]; rfl
            go_wp2_with fail
            go_quiet ((go_at_call 45; have HC := less_any x y; rw [hl] at HC; exact Calls.quiet_of_same (HC _)))
            go_wp2_with fail
            obtain ⟨w5, hw5⟩ : ∃ w5, wr.drewN nq = w5 := ⟨_, rfl⟩
            have R5 := HI.out.2.1.drew nq
            replace c1 := kp_cell (kp_drewN wr nq) c1
            replace c3 := kp_cell (kp_drewN wr nq) c3
            replace cy := kp_cell (kp_drewN wr nq) cy
            have HQ : Hid (wr.drewN nq = w5) := hw5
            rw [hw5] at c1 c3 cy R5 ⊢
            clear hw5
            go_quiet ((go_at_call 45; have HC := less_any z y; rw [hm] at HC; exact Calls.quiet_of_same (HC _)))
            obtain ⟨w6, hw6⟩ : ∃ w6, w5.drewN nq = w6 := ⟨_, rfl⟩
            replace R5 := R5.drew nq
            replace c1 := kp_cell (kp_drewN w5 nq) c1
            replace c3 := kp_cell (kp_drewN w5 nq) c3
            replace cy := kp_cell (kp_drewN w5 nq) cy
            rw [hw6] at c1 c3 cy R5 ⊢
            have f1 := R5.fz o
            have f2 := R5.fz p2
            have HE2 : Hid (∀ m', Hid ((swp e o p2).size = n ∧ Rw g (swp e o p2) (((w6.setCell ⟨g, o, none⟩ (.int .u8 y)).setCell ⟨g, p2, none⟩ (.int .u8 z)).drewN m') ∧ Fr (On g) w (((w6.setCell ⟨g, o, none⟩ (.int .u8 y)).setCell ⟨g, p2, none⟩ (.int .u8 z)).drewN m') ∧ siftDown ltZ hi f c2 (swp e o p2) = siftDown ltZ hi f lo d)) := fun m' => by rw [← hw6, ← HQ.out, drew2]; exact HE.out _ _
            have hne : o ≠ p2 := by have := HN.out; omega
            clear hw6 HE HQ HI R5 HS hm
            go_wp2_with fail
            go_region
            go_wp2_with fail
            have := HN.out
            exact ⟨⟨c2, swp e o p2, rfl, by omega, HE2.out 1⟩, by simp only [intOf]; omega⟩
      · have d4 : decide ((c2 : Int) < (hi : Int)) = false := decide_eq_false (by omega)
        have d5 : decide (c2 < hi) = false := decide_eq_false (by omega)
        have HS : Hid (siftDown ltZ hi f r e = if !ltZ z x then e else siftDown ltZ hi f c (swp e o p)) := by
          obtain ⟨n1, n2, n3, n4, n5, n6, n7, n8⟩ := HN.out
          have := sift_lo (d := e) (hi := hi) (f := f) (r := r) (by omega) (by rw [decide_eq_false (by omega)]; rfl)
          rw [this, ← n1, ← n3, ← n5, n7, n8]; exact rfl
        clear q2
        cases hm : ltZ z x with
        | false =>
          have HE : Hid (∀ m, Rw g (siftDown ltZ hi f lo d) (wr.drewN m) ∧ Fr (On g) w (wr.drewN m)) := fun m => by
            obtain ⟨n1, n2, n3, n4, n5, n6, n7, n8⟩ := HN.out
            have e0 : siftDown ltZ hi f lo d = e := by rw [← HI.out.2.2.2, HS.out, hm]; rfl
            rw [e0]; exact ⟨HI.out.2.1.drew m, HI.out.2.2.1.trans (Fr.drewN _ _ _)⟩
          go_wp2_with fail
          go_quiet (fail)
          go_wp2_with fail
          obtain ⟨w5, hw5⟩ : ∃ w5, wr.drewN nq = w5 := ⟨_, rfl⟩
          have R5 := HI.out.2.1.drew nq
          replace c1 := kp_cell (kp_drewN wr nq) c1
          replace c3 := kp_cell (kp_drewN wr nq) c3
          have HQ : Hid (wr.drewN nq = w5) := hw5
          rw [hw5] at c1 c3 R5 ⊢
          clear hw5
          go_quiet ((go_at_call 45; have HC := less_any z x; rw [hm] at HC; exact Calls.quiet_of_same (HC _)))
          have HE2 : Hid (∀ m, Rw g (siftDown ltZ hi f lo d) (w5.drewN m) ∧ Fr (On g) w (w5.drewN m)) := fun m => by rw [← HQ.out, drew2]; exact HE.out _
          clear HE HQ HI HN R5 c1 c3
          go_wp2_with fail
          first | go_end0 | refine bodyPost_ret (results_none rfl _ _ _) rfl ?_
          exact ⟨rfl, HE2.out _⟩
        | true =>
          have HE : Hid (∀ m m', Hid ((swp e o p).size = n ∧ Rw g (swp e o p) ((((wr.drewN m).setCell ⟨g, o, none⟩ (.int .u8 x)).setCell ⟨g, p, none⟩ (.int .u8 z)).drewN m') ∧ Fr (On g) w ((((wr.drewN m).setCell ⟨g, o, none⟩ (.int .u8 x)).setCell ⟨g, p, none⟩ (.int .u8 z)).drewN m') ∧ siftDown ltZ hi f c (swp e o p) = siftDown ltZ hi f lo d)) := fun m m' => by
            obtain ⟨q1, q2⟩ := (HI.out.2.1.drew m).swp (i := o) (j := p) HN.out.2.2.2.2.2.2.1 HN.out.2.2.2.2.2.2.2 m'
            refine ⟨by rw [size_swp]; exact HI.out.1, q1, (HI.out.2.2.1.trans (Fr.drewN _ _ _)).trans q2, ?_⟩
            rw [← HI.out.2.2.2, HS.out, hm]; rfl
          go_wp2_with fail
          go_quiet (fail)
          go_wp2_with fail
          obtain ⟨w5, hw5⟩ : ∃ w5, wr.drewN nq = w5 := ⟨_, rfl⟩
          have R5 := HI.out.2.1.drew nq
          replace c1 := kp_cell (kp_drewN wr nq) c1
          replace c3 := kp_cell (kp_drewN wr nq) c3
          have HQ : Hid (wr.drewN nq = w5) := hw5
          rw [hw5] at c1 c3 R5 ⊢
          clear hw5
          go_quiet ((go_at_call 45; have HC := less_any z x; rw [hm] at HC; exact Calls.quiet_of_same (HC _)))
          obtain ⟨w6, hw6⟩ : ∃ w6, w5.drewN nq = w6 := ⟨_, rfl⟩
          replace R5 := R5.drew nq
          replace c1 := kp_cell (kp_drewN w5 nq) c1
          replace c3 := kp_cell (kp_drewN w5 nq) c3
          rw [hw6] at c1 c3 R5 ⊢
          have f1 := R5.fz o
          have f2 := R5.fz p
          have HE2 : Hid (∀ m', Hid ((swp e o p).size = n ∧ Rw g (swp e o p) (((w6.setCell ⟨g, o, none⟩ (.int .u8 x)).setCell ⟨g, p, none⟩ (.int .u8 z)).drewN m') ∧ Fr (On g) w (((w6.setCell ⟨g, o, none⟩ (.int .u8 x)).setCell ⟨g, p, none⟩ (.int .u8 z)).drewN m') ∧ siftDown ltZ hi f c (swp e o p) = siftDown ltZ hi f lo d)) := fun m' => by rw [← hw6, ← HQ.out, drew2]; exact HE.out _ _
          have hne : o ≠ p := by have := HN.out; omega
          clear hw6 HE HQ HI R5 HS hm
          go_wp2_with fail
          go_region
          go_wp2_with fail
          have := HN.out
          exact ⟨⟨c, swp e o p, rfl, by omega, HE2.out 1⟩, by simp only [intOf]; omega⟩
end
end Go.Proofs.Ytmceophmdkcgcaa
/- Sorted by a heap: heapSort. -/
namespace Go.Proofs.Ytmceophmdkcgcaa
open Go.ChangeShapes Go.WideShapes Go.ChangeAt Go.RowKit Go.Sort
set_option linter.unusedVariables false
set_option linter.unusedSimpArgs false
section
variable {g : Nat} {d : Array Int} {w w1 : World}
theorem sift_size (hi f : Nat) : ∀ (m r : Nat) (d : Array Int), hi - r ≤ m → (siftDown ltZ hi f r d).size = d.size := by
  intro m
  induction m with
  | zero => intro r d h; rw [sift_end (by omega)]
  | succ m ih =>
    intro r d h
    by_cases q : 2 * r + 1 ≥ hi
    · rw [sift_end q]
    · cases p : (decide (2 * r + 1 + 1 < hi) && ltZ d[f + (2 * r + 1)]! d[f + (2 * r + 1) + 1]!) with
      | false =>
        rw [sift_lo q p]
        split
        · rfl
        · rw [ih _ _ (by omega), size_swp]
      | true =>
        rw [sift_up q p]
        split
        · rfl
        · rw [ih _ _ (by omega), size_swp]
set_option maxHeartbeats 16000000 in
set_option maxRecDepth 100000 in
theorem heap_any {n a b cap : Nat} (h : Rw g d w) (hn : d.size = n) (hab : a < b) (hb : b ≤ n) (hn2 : n ≤ 1000) :
    Calls Try.prog 40 #[.slice (some ⟨g, 0, none⟩) n cap, .int .i64 a, .int .i64 b] w fun e w' => e = .returned (.tuple #[]) ∧ Rw g (heapSort ltZ d a b) w' ∧ Fr (On g) w w' := by
  obtain ⟨H, hH⟩ : ∃ H, b = a + H := ⟨b - a, by omega⟩
  obtain ⟨H1, hH1⟩ : ∃ H1, H = H1 + 1 := ⟨H - 1, by omega⟩
  obtain ⟨m, hm⟩ : ∃ m, m = H1 / 2 := ⟨_, rfl⟩
  have u1 : (b : Int) - (a : Int) = (H : Int) := by omega
  have u2 : (H : Int) - 1 = (H1 : Int) := by omega
  have u3 : (H1 : Int).tdiv 2 = (m : Int) := by rw [hm]; rfl
  have u4 : (H1 : Int) / 2 = (m : Int) := by omega
  have H0 : Hid (Rw g d w ∧ d.size = n ∧ heapSort ltZ d a b = heapPop ltZ a H (heapBuild ltZ H a (m + 1) d)) := ⟨h, hn, by unfold heapSort; rw [show b - a = H by omega, show (H - 1) / 2 + 1 = m + 1 by omega]⟩
  have hHn : a + H ≤ n := by omega
  have hmH : m ≤ n := by omega
  have HH : Hid (H = H1 + 1) := hH1
  clear h hn hH hm hH1 hb
  go_enter Try.func40, Try.ntmps40
  go_wp2_with fail
  go_loopw [9] (fun v9 wr => ∃ (vi : Int) (k : Nat) (e : Array Int), v9 = .int .i64 vi ∧ vi + 1 = (k : Int) ∧ k ≤ n + 1 ∧ Hid (e.size = n ∧ Rw g e wr ∧ Fr (On g) w wr ∧ heapBuild ltZ H a k e = heapBuild ltZ H a (m + 1) d)) (fun v9 _ => (intOf v9 + 1).toNat)
  case atStart => exact ⟨m, m + 1, d, rfl, by omega, by omega, H0.out.2.1, H0.out.1, Fr.refl _ _, rfl⟩
  case round =>
    obtain ⟨vi, k, e, rfl, hk, hkn, HI⟩ := hrel
    clear u3 u4
    cases k with
    | zero =>
      obtain rfl : vi = -1 := by omega
      have HE : Hid (Rw g (heapBuild ltZ H a (m + 1) d) wr ∧ Fr (On g) w wr ∧ (heapBuild ltZ H a (m + 1) d).size = n) := by
        rw [← HI.out.2.2.2]; exact ⟨HI.out.2.1, HI.out.2.2.1, HI.out.1⟩
      clear HI hk
      go_wp2_with fail
      go_loopw [10] (fun v10 wr2 => ∃ (vi : Int) (k : Nat) (e : Array Int), v10 = .int .i64 vi ∧ vi + 1 = (k : Int) ∧ k ≤ H ∧ Hid (e.size = n ∧ Rw g e wr2 ∧ Fr (On g) w wr2 ∧ heapPop ltZ a k e = heapPop ltZ a H (heapBuild ltZ H a (m + 1) d))) (fun v10 _ => (intOf v10 + 1).toNat)
      case atStart => exact ⟨H1, H, _, rfl, by have := HH.out; omega, Nat.le_refl _, HE.out.2.2, HE.out.1, HE.out.2.1, rfl⟩
      case round =>
        obtain ⟨vi, k, e, rfl, hk, hkn2, HI⟩ := hrel
        clear HE
        cases k with
        | zero =>
          obtain rfl : vi = -1 := by omega
          have HF : Hid (Rw g (heapSort ltZ d a b) wr ∧ Fr (On g) w wr) := by
            rw [H0.out.2.2, ← HI.out.2.2.2]; exact ⟨HI.out.2.1, HI.out.2.2.1⟩
          clear HI hk H0
          go_wp2_with fail
          go_end0
          exact ⟨rfl, HF.out⟩
        | succ i =>
          obtain rfl : vi = (i : Int) := by omega
          clear hk
          obtain ⟨p, hp⟩ : ∃ p, p = a + i := ⟨_, rfl⟩
          have d1 : decide ((i : Int) ≥ 0) = true := decide_eq_true (by omega)
          have d2 : decide ((0 : Int) ≤ (i : Int)) = true := decide_eq_true (by omega)
          have v1 : (a : Int) + (i : Int) = (p : Int) := by omega
          have l1 : a < n := by omega
          have l2 : p < n := by omega
          have c1 := HI.out.2.1.cell (i := a) (by have := HI.out.1; omega)
          have c2 := HI.out.2.1.cell (i := p) (by have := HI.out.1; omega)
          have f1 := HI.out.2.1.fz a
          have f2 := HI.out.2.1.fz p
          obtain ⟨x, hx⟩ : ∃ x, e[a]! = x := ⟨_, rfl⟩
          obtain ⟨y, hy⟩ : ∃ y, e[p]! = y := ⟨_, rfl⟩
          rw [hx] at c1
          rw [hy] at c2
          have HS : Hid (∀ m', Calls Try.prog 50 #[.slice (some ⟨g, 0, none⟩) n cap, .int .i64 0, .int .i64 i, .int .i64 a] (((wr.setCell ⟨g, a, none⟩ (.int .u8 y)).setCell ⟨g, p, none⟩ (.int .u8 x)).drewN m') fun ee w' => ee = .returned (.tuple #[]) ∧ Hid ((siftDown ltZ i a 0 (swp e a p)).size = n ∧ Rw g (siftDown ltZ i a 0 (swp e a p)) w' ∧ Fr (On g) w w' ∧ heapPop ltZ a i (siftDown ltZ i a 0 (swp e a p)) = heapPop ltZ a H (heapBuild ltZ H a (m + 1) d))) := fun m' => by
            obtain ⟨q1, q2⟩ := HI.out.2.1.swp (i := a) (j := p) hy hx m'
            have hs : (swp e a p).size = n := by rw [size_swp]; exact HI.out.1
            refine (sift_any (lo := 0) q1 hs (by omega) (by omega) hn2).mono ?_
            rintro ee w' ⟨he, hr, hf⟩
            refine ⟨he, by rw [sift_size _ _ _ _ _ (Nat.le_refl _)]; exact hs, hr, (HI.out.2.2.1.trans q2).trans hf, ?_⟩
            rw [← HI.out.2.2.2, hp]; rfl
          have HP : Hid (p = a + i) := hp
          clear hx hy hp HI
          by_cases hne : a = p
          · subst hne
            have hxy : x = y := by rw [c1] at c2; cases c2; rfl
            subst hxy
            clear c2 f2 l2
            go_wp2_with fail
            go_region
            go_wp2_with fail
            refine Calls.mono (HS.out 1) ?_
            rintro ee w3 ⟨rfl, H3⟩
            have H3' : Hid _ := H3
            clear HS H3 c1 f1
            go_wp2_with fail
            go_roundw
            case rel => exact ⟨(i : Int) - 1, i, _, rfl, by omega, by omega, H3'.out⟩
            case measure => simp only [intOf]; omega
          · go_wp2_with fail
            go_region
            go_wp2_with fail
            refine Calls.mono (HS.out 1) ?_
            rintro ee w3 ⟨rfl, H3⟩
            have H3' : Hid _ := H3
            clear HS H3 c1 f1 c2 f2
            go_wp2_with fail
            go_roundw
            case rel => exact ⟨(i : Int) - 1, i, _, rfl, by omega, by omega, H3'.out⟩
            case measure => simp only [intOf]; omega
    | succ i =>
      obtain rfl : vi = (i : Int) := by omega
      clear hk
      have d1 : decide ((i : Int) ≥ 0) = true := decide_eq_true (by omega)
      have d2 : decide ((0 : Int) ≤ (i : Int)) = true := decide_eq_true (by omega)
      have HS : Hid (Calls Try.prog 50 #[.slice (some ⟨g, 0, none⟩) n cap, .int .i64 i, .int .i64 H, .int .i64 a] wr fun ee w' => ee = .returned (.tuple #[]) ∧ Hid ((siftDown ltZ H a i e).size = n ∧ Rw g (siftDown ltZ H a i e) w' ∧ Fr (On g) w w' ∧ heapBuild ltZ H a i (siftDown ltZ H a i e) = heapBuild ltZ H a (m + 1) d)) := by
        refine (sift_any HI.out.2.1 HI.out.1 (by omega) (by omega) hn2).mono ?_
        rintro ee w' ⟨he, hr, hf⟩
        refine ⟨he, by rw [sift_size _ _ _ _ _ (Nat.le_refl _)]; exact HI.out.1, hr, HI.out.2.2.1.trans hf, ?_⟩
        rw [← HI.out.2.2.2]; rfl
      clear HI
      go_wp2_with fail
      refine Calls.mono HS.out ?_
      rintro ee w3 ⟨rfl, H3⟩
      have H3' : Hid _ := H3
      clear HS H3
      go_wp2_with fail
      go_roundw
      case rel => exact ⟨(i : Int) - 1, i, _, rfl, by omega, by omega, H3'.out⟩
      case measure => simp only [intOf]; omega
end
end Go.Proofs.Ytmceophmdkcgcaa
/- Parted by one of its bytes. -/
namespace Go.Proofs.Ytmceophmdkcgcaa
open Go.ChangeShapes Go.WideShapes Go.ChangeAt Go.RowKit Go.Sort
set_option linter.unusedVariables false
set_option linter.unusedSimpArgs false
/-- While it is parted: what is ahead of i is less than the byte at a, what is behind j is not. -/
structure Ptn (a b : Nat) (d : Array Int) (i j : Nat) (e : Array Int) : Prop where
  perm : PermIn a b d e
  ia : a + 1 ≤ i
  jb : j < b
  ij : i ≤ j + 1
  lo : ∀ x, a < x → x < i → ltZ e[x]! e[a]! = true
  up : ∀ x, j < x → x < b → ltZ e[x]! e[a]! = false
/-- What is told of a row that is parted at m. -/
structure Ptd (a b : Nat) (d : Array Int) (m : Nat) (e : Array Int) : Prop where
  perm : PermIn a b d e
  am : a ≤ m
  mb : m < b
  lo : ∀ x, a ≤ x → x < m → ltZ e[x]! e[m]! = true
  up : ∀ x, m < x → x < b → ltZ e[x]! e[m]! = false
section
variable {g : Nat} {d : Array Int} {w w1 : World} {a b i j : Nat} {e : Array Int}
theorem Ptn.start {p : Nat} (h1 : a ≤ p) (h2 : p < b) (h3 : b ≤ d.size) : Ptn a b d (a + 1) (b - 1) (swp d a p) :=
  ⟨swp_permIn d a b a p (Nat.le_refl _) (by omega) h1 h2 h3, Nat.le_refl _, by omega, by omega, fun x h h' => by omega, fun x h h' => by omega⟩
theorem Ptn.more (h : Ptn a b d i j e) (hij : i ≤ j) (hl : ltZ e[i]! e[a]! = true) : Ptn a b d (i + 1) j e :=
  ⟨h.perm, by have := h.ia; omega, h.jb, by omega, fun x h1 h2 => by rcases Nat.lt_succ_iff_lt_or_eq.1 h2 with q | rfl; exact h.lo x h1 q; exact hl, h.up⟩
theorem Ptn.less (h : Ptn a b d i j e) (hij : i ≤ j) (hl : ltZ e[j]! e[a]! = false) : Ptn a b d i (j - 1) e :=
  ⟨h.perm, h.ia, by have := h.jb; omega, by have := h.ia; omega, h.lo, fun x h1 h2 => by
    have := h.ia
    rcases Nat.lt_or_ge j x with q | q
    · exact h.up x q h2
    · obtain rfl : x = j := by omega
      exact hl⟩
theorem Ptn.turn (h : Ptn a b d i j e) (hij : i < j) (hb : b ≤ e.size) (h1 : ltZ e[i]! e[a]! = false) (h2 : ltZ e[j]! e[a]! = true) : Ptn a b d (i + 1) (j - 1) (swp e i j) := by
  have ia := h.ia
  have jb := h.jb
  have ea : (swp e i j)[a]! = e[a]! := swp_other e i j a (by omega) (by omega)
  refine ⟨permIn_trans _ _ _ _ _ h.perm (swp_permIn e a b i j (by omega) (by omega) (by omega) (by omega) hb), by omega, by omega, by omega, fun x q1 q2 => ?_, fun x q1 q2 => ?_⟩
  · rw [ea]
    by_cases q : x = i
    · subst q; rw [swp_left e x j (by omega) (by omega)]; exact h2
    · rw [swp_other e i j x q (by omega)]; exact h.lo x q1 (by omega)
  · rw [ea]
    by_cases q : x = j
    · subst q; rw [swp_right e i x (by omega)]; exact h1
    · rw [swp_other e i j x (by omega) q]; exact h.up x (by omega) q2
theorem Ptn.done (h : Ptn a b d i j e) (hij : j < i) (hb : b ≤ e.size) : Ptd a b d j (swp e j a) := by
  have ia := h.ia
  have jb := h.jb
  have ij := h.ij
  have ej : (swp e j a)[j]! = e[a]! := by
    by_cases q : j = a
    · subst q; rw [swp_right e j j (by omega)]
    · exact swp_left e j a (by omega) q
  refine ⟨permIn_trans _ _ _ _ _ h.perm (swp_permIn e a b j a (by omega) (by omega) (by omega) (by omega) hb), by omega, jb, fun x q1 q2 => ?_, fun x q1 q2 => ?_⟩
  · rw [ej]
    by_cases q : x = a
    · subst q; rw [swp_right e j x (by omega)]
      by_cases q3 : j = x
      · omega
      · exact h.lo j (by omega) (by omega)
    · rw [swp_other e j a x (by omega) q]; exact h.lo x (by omega) (by omega)
  · rw [ej, swp_other e j a x (by omega) (by omega)]; exact h.up x q1 q2
/-- What lies in memory while it is parted. -/
def Ptm (g n a b : Nat) (d : Array Int) (w : World) (i j : Nat) (e : Array Int) (W : World) : Prop := Ptn a b d i j e ∧ e.size = n ∧ Rw g e W ∧ Fr (On g) w W
theorem Ptm.drew {n : Nat} {W : World} (h : Ptm g n a b d w i j e W) (m : Nat) : Ptm g n a b d w i j e (W.drewN m) := ⟨h.1, h.2.1, h.2.2.1.drew m, h.2.2.2.trans (Fr.drewN _ _ _)⟩
set_option maxHeartbeats 32000000 in
set_option maxRecDepth 100000 in
theorem part_any {n p cap : Nat} (h : Rw g d w) (hn : d.size = n) (hap : a ≤ p) (hpb : p < b) (hb : b ≤ n) (hn2 : n ≤ 1000) :
    Calls Try.prog 47 #[.slice (some ⟨g, 0, none⟩) n cap, .int .i64 a, .int .i64 b, .int .i64 p] w fun r w' => ∃ (m : Nat) (y : Bool) (e : Array Int), r = .returned (.tuple #[.int .i64 m, .bool y]) ∧ Hid (Ptd a b d m e ∧ e.size = n ∧ Rw g e w' ∧ Fr (On g) w w') := by
  obtain ⟨b1, hb1⟩ : ∃ b1, b = b1 + 1 := ⟨b - 1, by omega⟩
  have u1 : (b : Int) - 1 = (b1 : Int) := by omega
  have lb : b1 < n := by omega
  have la : a < n := by omega
  have lp : p < n := by omega
  have c1 := h.cell (i := a) (by omega)
  have c2 := h.cell (i := p) (by omega)
  have f1 := h.fz a
  have f2 := h.fz p
  obtain ⟨x, hx⟩ : ∃ x, d[a]! = x := ⟨_, rfl⟩
  obtain ⟨y, hy⟩ : ∃ y, d[p]! = y := ⟨_, rfl⟩
  rw [hx] at c1
  rw [hy] at c2
  have H0 : Hid (∀ m, Ptm g n a b d w (a + 1) b1 (swp d a p) (((w.setCell ⟨g, a, none⟩ (.int .u8 y)).setCell ⟨g, p, none⟩ (.int .u8 x)).drewN m)) := fun m => by
    obtain ⟨q1, q2⟩ := h.swp (i := a) (j := p) hy hx m
    exact ⟨by have := Ptn.start (d := d) hap hpb (by omega); rw [hb1, Nat.add_sub_cancel] at this; rw [hb1]; exact this, by rw [size_swp]; exact hn, q1, q2⟩
  have HB : Hid (b = b1 + 1) := hb1
  clear h hn hap hpb hx hy hb1
  go_enter Try.func47, Try.ntmps47
  go_upto_region 1 with fail
  go_cut [] from 12 (fun wx => Hid (∃ m, wx = ((w.setCell ⟨g, a, none⟩ (.int .u8 y)).setCell ⟨g, p, none⟩ (.int .u8 x)).drewN m))
  case first =>
    clear H0 HB
    by_cases q : a = p
    · subst q
      obtain rfl : x = y := by rw [c1] at c2; cases c2; rfl
      clear c2 f2 lp
      go_region
      go_wp2_with fail
      go_meet
      case rel => exact ⟨1, rfl⟩
    · go_region
      go_wp2_with fail
      go_meet
      case rel => exact ⟨1, rfl⟩
  case rest =>
    have HP : Hid (Ptm g n a b d w (a + 1) b1 (swp d a p) wc) := by obtain ⟨m, rfl⟩ := hcut.out; exact H0.out m
    clear H0 hcut c1 c2 f1 f2
    obtain ⟨e, he⟩ : ∃ e, swp d a p = e := ⟨_, rfl⟩
    rw [he] at HP
    clear he
    go_wp2_with fail
    go_loopw [10] (fun v10 wr => ∃ i : Nat, v10 = .int .i64 i ∧ i ≤ n ∧ Hid (Ptm g n a b d w i b1 e wr ∧ (a + 1) ≤ i)) (fun v10 _ => n - (intOf v10).toNat)
    case atStart => exact ⟨(a + 1), by go_num, by have := HP.out.1.ij; have := HP.out.1.jb; omega, HP.out, Nat.le_refl _⟩
    case round =>
      obtain ⟨iN, rfl, hi, HQ0⟩ := hrel
      have HQ : Hid (Ptm g n a b d w iN b1 e wr) := HQ0.out.1
      have HM : Hid ((a + 1) ≤ iN) := HQ0.out.2
      clear HQ0
      clear HP
      obtain ⟨u, hu⟩ : ∃ u, (decide (iN ≤ b1) && ltZ e[iN]! e[a]!) = u := ⟨_, rfl⟩
      have HU : Hid ((decide (iN ≤ b1) && ltZ e[iN]! e[a]!) = u) := hu
      clear hu
      go_upto_region 3 with fail
      go_cut [43] from 30 to 45 (fun v wx => v = .bool u ∧ Hid (∃ m, wx = wr.drewN m))
      case first =>
        by_cases q : iN ≤ b1
        · have d1 : decide ((iN : Int) ≤ (b1 : Int)) = true := decide_eq_true (by omega)
          have d2 : decide (iN ≤ b1) = true := decide_eq_true (by omega)
          have l1 : iN < n := by have := HQ.out.1.jb; omega
          have k1 := HQ.out.2.2.1.cell (i := iN) (by have := HQ.out.2.1; omega)
          have k2 := HQ.out.2.2.1.cell (i := a) (by have := HQ.out.2.1; omega)
          obtain ⟨x, hx⟩ : ∃ x, e[iN]! = x := ⟨_, rfl⟩
          obtain ⟨z, hz⟩ : ∃ z, e[a]! = z := ⟨_, rfl⟩
          rw [hx] at k1
          rw [hz] at k2
          have hv := HU.out
          rw [d2, hx, hz, Bool.true_and] at hv
          subst hv
          clear HU hx hz HQ q HM
          go_quiet ((go_at_call 45; exact Calls.quiet_of_same (less_any x z _)))
          go_wp2_with fail
          go_meet
          case rel => exact ⟨rfl, _, rfl⟩
        · have d1 : decide ((iN : Int) ≤ (b1 : Int)) = false := decide_eq_false (by omega)
          have d2 : decide (iN ≤ b1) = false := decide_eq_false (by omega)
          have hv := HU.out
          rw [d2, Bool.false_and] at hv
          subst hv
          clear HU HQ q HM
          go_quiet (fail)
          go_wp2_with fail
          go_meet
          case rel => exact ⟨rfl, _, rfl⟩
      case rest =>
        obtain ⟨rfl, HW⟩ := hcut
        replace HQ : Hid (Ptm g n a b d w iN b1 e wc) := by obtain ⟨m, rfl⟩ := HW.out; exact HQ.out.drew m
        clear HW
        cases u with
        | true =>
          have hh := HU.out
          simp only [Bool.and_eq_true, decide_eq_true_eq, Bool.not_eq_true'] at hh
          have HR : Hid (Ptm g n a b d w (iN + 1) b1 e wc ∧ (a + 1) ≤ iN + 1) := ⟨⟨HQ.out.1.more hh.1 hh.2, HQ.out.2⟩, Nat.le_succ_of_le HM.out⟩
          have hi2 : iN + 1 ≤ n := by have := HR.out.1.1.ij; have := HR.out.1.1.jb; omega
          clear HQ HU hh
          go_wp2_with fail
          exact ⟨⟨iN + 1, by go_num, hi2, HR.out⟩, by simp only [intOf]; omega⟩
        | false =>
          have HX : Hid (b1 < iN ∨ ltZ e[iN]! e[a]! = false) := by
            have hh := HU.out
            simp only [Bool.and_eq_false_iff, decide_eq_false_iff_not] at hh
            rcases hh with q | q; exact .inl (by omega); exact .inr q
          have HP : Hid (Ptm g n a b d w iN b1 e wc) := HQ.out
          clear HQ HU
          go_wp2_with fail
          go_loopw [11] (fun v11 wr => ∃ j : Nat, v11 = .int .i64 j ∧ j < n ∧ Hid (Ptm g n a b d w iN j e wr ∧ (j < iN ∨ ltZ e[iN]! e[a]! = false) ∧ j ≤ b1)) (fun v11 _ => (intOf v11).toNat)
          case atStart => exact ⟨b1, by go_num, by have := HP.out.1.jb; omega, HP.out, HX.out, Nat.le_refl _⟩
          case round =>
            obtain ⟨jN, rfl, hj, HQ0⟩ := hrel
            have HQ : Hid (Ptm g n a b d w iN jN e wr) := HQ0.out.1
            have HX0 : Hid (jN < iN ∨ ltZ e[iN]! e[a]! = false) := HQ0.out.2.1
            have HM2 : Hid (jN ≤ b1) := HQ0.out.2.2
            clear HQ0 HX
            clear HP
            obtain ⟨u, hu⟩ : ∃ u, (decide (iN ≤ jN) && !ltZ e[jN]! e[a]!) = u := ⟨_, rfl⟩
            have HU : Hid ((decide (iN ≤ jN) && !ltZ e[jN]! e[a]!) = u) := hu
            clear hu
            go_upto_region 5 with fail
            go_cut [60] from 46 to 62 (fun v wx => v = .bool u ∧ Hid (∃ m, wx = wr.drewN m))
            case first =>
              by_cases q : iN ≤ jN
              · have d1 : decide ((iN : Int) ≤ (jN : Int)) = true := decide_eq_true (by omega)
                have d2 : decide (iN ≤ jN) = true := decide_eq_true (by omega)
                have l1 : jN < n := by have := HQ.out.1.jb; omega
                have k1 := HQ.out.2.2.1.cell (i := jN) (by have := HQ.out.2.1; omega)
                have k2 := HQ.out.2.2.1.cell (i := a) (by have := HQ.out.2.1; omega)
                obtain ⟨x, hx⟩ : ∃ x, e[jN]! = x := ⟨_, rfl⟩
                obtain ⟨z, hz⟩ : ∃ z, e[a]! = z := ⟨_, rfl⟩
                rw [hx] at k1
                rw [hz] at k2
                have hv := HU.out
                rw [d2, hx, hz, Bool.true_and] at hv
                subst hv
                clear HU hx hz HQ q HX0 HM2
                go_quiet ((go_at_call 45; exact Calls.quiet_of_same (less_any x z _)))
                go_wp2_with fail
                go_meet
                case rel => exact ⟨rfl, _, rfl⟩
              · have d1 : decide ((iN : Int) ≤ (jN : Int)) = false := decide_eq_false (by omega)
                have d2 : decide (iN ≤ jN) = false := decide_eq_false (by omega)
                have hv := HU.out
                rw [d2, Bool.false_and] at hv
                subst hv
                clear HU HQ q HX0 HM2
                go_quiet (fail)
                go_wp2_with fail
                go_meet
                case rel => exact ⟨rfl, _, rfl⟩
            case rest =>
              obtain ⟨rfl, HW⟩ := hcut
              replace HQ : Hid (Ptm g n a b d w iN jN e wc) := by obtain ⟨m, rfl⟩ := HW.out; exact HQ.out.drew m
              clear HW
              cases u with
              | true =>
                have hh := HU.out
                simp only [Bool.and_eq_true, decide_eq_true_eq, Bool.not_eq_true'] at hh
                obtain ⟨k, hk⟩ : ∃ k, jN = k + 1 := ⟨jN - 1, by have := HQ.out.1.ia; omega⟩
                have e4 : (jN : Int) - 1 = (k : Int) := by omega
                have HR : Hid (Ptm g n a b d w iN k e wc ∧ (k < iN ∨ ltZ e[iN]! e[a]! = false) ∧ k ≤ b1 ∧ jN = k + 1) := ⟨⟨by have := HQ.out.1.less hh.1 hh.2; rw [hk, Nat.add_sub_cancel] at this; exact this, HQ.out.2⟩, by rcases HX0.out with q | q; exact .inl (by omega); exact .inr q, by have := HM2.out; omega, hk⟩
                clear HQ HU hh hk HX0
                go_wp2_with fail
                have hjk := HR.out.2.2.2
                exact ⟨⟨k, rfl, by omega, HR.out.1, HR.out.2.1, HR.out.2.2.1⟩, by simp only [intOf]; omega⟩
              | false =>
                have HX : Hid (jN < iN ∨ (ltZ e[jN]! e[a]! = true ∧ ltZ e[iN]! e[a]! = false)) := by
                  have hh := HU.out
                  simp only [Bool.and_eq_false_iff, decide_eq_false_iff_not, Bool.not_eq_false'] at hh
                  rcases hh with q | q
                  · exact .inl (by omega)
                  · rcases HX0.out with p | p
                    · exact .inl p
                    · exact .inr ⟨q, p⟩
                clear HX0
                have HP : Hid (Ptm g n a b d w iN jN e wc) := HQ.out
                clear HQ HU
                obtain ⟨i, hiN⟩ : ∃ i, i = iN := ⟨_, rfl⟩
                obtain ⟨j, hjN⟩ : ∃ j, j = jN := ⟨_, rfl⟩
                subst hiN hjN
                by_cases hgt : j < i
                · have HGT : Hid (j < i) := hgt
                  have d1 : decide ((i : Int) > (j : Int)) = true := decide_eq_true (by omega)
                  have d2 : decide ((j : Int) < (i : Int)) = true := decide_eq_true (by omega)
                  have d3 : decide (j < i) = true := decide_eq_true (by omega)
                  clear hgt
                  go_wp2_with fail
                  have l1_ : j < n := by have := HP.out.1.jb; omega
                  have ja : a ≤ j := by have := HP.out.1.ij; have := HP.out.1.ia; omega
                  have k1 := HP.out.2.2.1.cell (i := j) (by have := HP.out.2.1; omega)
                  have k2 := HP.out.2.2.1.cell (i := a) (by have := HP.out.2.1; omega)
                  have g1 := HP.out.2.2.1.fz j
                  have g2 := HP.out.2.2.1.fz a
                  obtain ⟨s, hs⟩ : ∃ s, e[j]! = s := ⟨_, rfl⟩
                  obtain ⟨t, ht⟩ : ∃ t, e[a]! = t := ⟨_, rfl⟩
                  rw [hs] at k1
                  rw [ht] at k2
                  have HF : Hid (∀ m, Ptd a b d j (swp e j a) ∧ (swp e j a).size = n ∧ Rw g (swp e j a) (((wc.setCell ⟨g, j, none⟩ (.int .u8 t)).setCell ⟨g, a, none⟩ (.int .u8 s)).drewN m) ∧ Fr (On g) w (((wc.setCell ⟨g, j, none⟩ (.int .u8 t)).setCell ⟨g, a, none⟩ (.int .u8 s)).drewN m)) := fun m => by
                    obtain ⟨q1, q2⟩ := HP.out.2.2.1.swp (i := j) (j := a) ht hs m
                    exact ⟨HP.out.1.done HGT.out (by have := HP.out.2.1; omega), by rw [size_swp]; exact HP.out.2.1, q1, HP.out.2.2.2.trans q2⟩
                  clear HP HX hs ht
                  by_cases q : j = a
                  · subst q
                    obtain rfl : s = t := by rw [k1] at k2; cases k2; rfl
                    clear k2 g2
                    go_region
                    go_wp2_with fail
                    go_ret2
                    exact ⟨_, _, _, rfl, HF.out 1⟩
                  · go_region
                    go_wp2_with fail
                    go_ret2
                    exact ⟨_, _, _, rfl, HF.out 1⟩
                · have HGT : Hid (¬ j < i) := hgt
                  have d1 : decide ((i : Int) > (j : Int)) = false := decide_eq_false (by omega)
                  have d2 : decide ((j : Int) < (i : Int)) = false := decide_eq_false (by omega)
                  have d3 : decide (j < i) = false := decide_eq_false (by omega)
                  clear hgt
                  go_wp2_with fail
                  have hlt : i < j ∧ ltZ e[i]! e[a]! = false ∧ ltZ e[j]! e[a]! = true := by
                    rcases HX.out with q | ⟨q1, q2⟩
                    · exact absurd q HGT.out
                    · refine ⟨?_, q2, q1⟩
                      rcases Nat.lt_or_ge i j with r | r
                      · exact r
                      · have := HGT.out
                        obtain rfl : i = j := by omega
                        rw [q1] at q2; cases q2
                  obtain ⟨k, hk⟩ : ∃ k, j = k + 1 := ⟨j - 1, by omega⟩
                  have e4 : (j : Int) - 1 = (k : Int) := by omega
                  have l1_ : i < n := by have := HP.out.1.jb; omega
                  have l2_ : j < n := by have := HP.out.1.jb; omega
                  have k1 := HP.out.2.2.1.cell (i := i) (by have := HP.out.2.1; omega)
                  have k2 := HP.out.2.2.1.cell (i := j) (by have := HP.out.2.1; omega)
                  have g1 := HP.out.2.2.1.fz i
                  have g2 := HP.out.2.2.1.fz j
                  obtain ⟨s, hs⟩ : ∃ s, e[i]! = s := ⟨_, rfl⟩
                  obtain ⟨t, ht⟩ : ∃ t, e[j]! = t := ⟨_, rfl⟩
                  rw [hs] at k1
                  rw [ht] at k2
                  have HF : Hid (∀ m, Ptm g n a b d w (i + 1) k (swp e i j) (((wc.setCell ⟨g, i, none⟩ (.int .u8 t)).setCell ⟨g, j, none⟩ (.int .u8 s)).drewN m)) := fun m => by
                    obtain ⟨q1, q2⟩ := HP.out.2.2.1.swp (i := i) (j := j) ht hs m
                    refine ⟨?_, by rw [size_swp]; exact HP.out.2.1, q1, HP.out.2.2.2.trans q2⟩
                    have := HP.out.1.turn hlt.1 (by have := HP.out.2.1; omega) hlt.2.1 hlt.2.2
                    rw [hk, Nat.add_sub_cancel] at this
                    rw [hk]; exact this
                  have hne : i ≠ j := by omega
                  have HK : Hid (j = k + 1) := hk
                  clear HP HX HGT hs ht hlt hk
                  go_region
                  go_wp2_with fail
                  go_loopw [10, 11] (fun v10 v11 wr => ∃ (i j : Nat) (e : Array Int), v10 = .int .i64 i ∧ v11 = .int .i64 j ∧ i ≤ n ∧ j < n ∧ Hid (Ptm g n a b d w i j e wr)) (fun v10 v11 _ => n + (intOf v11).toNat - (intOf v10).toNat)
                  case atStart => exact ⟨i + 1, k, swp e i j, by go_num, rfl, by omega, by have := HK.out; omega, HF.out 1⟩
                  case round =>
                    clear HF HK k1 k2 g1 g2 e4 HM HM2 d1 d2 d3 l1_ l2_ hne
                    obtain ⟨i1, j1, e, rfl, rfl, hi1, hj1, HP⟩ := hrel
                    go_wp2_with fail
                    go_loopw [10] (fun v10 wr => ∃ i : Nat, v10 = .int .i64 i ∧ i ≤ n ∧ Hid (Ptm g n a b d w i j1 e wr ∧ i1 ≤ i)) (fun v10 _ => n - (intOf v10).toNat)
                    case atStart => exact ⟨i1, by go_num, by have := HP.out.1.ij; have := HP.out.1.jb; omega, HP.out, Nat.le_refl _⟩
                    case round =>
                      obtain ⟨iN, rfl, hi, HQ0⟩ := hrel
                      have HQ : Hid (Ptm g n a b d w iN j1 e wr) := HQ0.out.1
                      have HM : Hid (i1 ≤ iN) := HQ0.out.2
                      clear HQ0
                      clear HP
                      obtain ⟨u, hu⟩ : ∃ u, (decide (iN ≤ j1) && ltZ e[iN]! e[a]!) = u := ⟨_, rfl⟩
                      have HU : Hid ((decide (iN ≤ j1) && ltZ e[iN]! e[a]!) = u) := hu
                      clear hu
                      go_upto_region 13 with fail
                      go_cut [112] from 99 to 114 (fun v wx => v = .bool u ∧ Hid (∃ m, wx = wr.drewN m))
                      case first =>
                        by_cases q : iN ≤ j1
                        · have d1 : decide ((iN : Int) ≤ (j1 : Int)) = true := decide_eq_true (by omega)
                          have d2 : decide (iN ≤ j1) = true := decide_eq_true (by omega)
                          have l1 : iN < n := by have := HQ.out.1.jb; omega
                          have k1 := HQ.out.2.2.1.cell (i := iN) (by have := HQ.out.2.1; omega)
                          have k2 := HQ.out.2.2.1.cell (i := a) (by have := HQ.out.2.1; omega)
                          obtain ⟨x, hx⟩ : ∃ x, e[iN]! = x := ⟨_, rfl⟩
                          obtain ⟨z, hz⟩ : ∃ z, e[a]! = z := ⟨_, rfl⟩
                          rw [hx] at k1
                          rw [hz] at k2
                          have hv := HU.out
                          rw [d2, hx, hz, Bool.true_and] at hv
                          subst hv
                          clear HU hx hz HQ q HM
                          go_quiet ((go_at_call 45; exact Calls.quiet_of_same (less_any x z _)))
                          go_wp2_with fail
                          go_meet
                          case rel => exact ⟨rfl, _, rfl⟩
                        · have d1 : decide ((iN : Int) ≤ (j1 : Int)) = false := decide_eq_false (by omega)
                          have d2 : decide (iN ≤ j1) = false := decide_eq_false (by omega)
                          have hv := HU.out
                          rw [d2, Bool.false_and] at hv
                          subst hv
                          clear HU HQ q HM
                          go_quiet (fail)
                          go_wp2_with fail
                          go_meet
                          case rel => exact ⟨rfl, _, rfl⟩
                      case rest =>
                        obtain ⟨rfl, HW⟩ := hcut
                        replace HQ : Hid (Ptm g n a b d w iN j1 e wc) := by obtain ⟨m, rfl⟩ := HW.out; exact HQ.out.drew m
                        clear HW
                        cases u with
                        | true =>
                          have hh := HU.out
                          simp only [Bool.and_eq_true, decide_eq_true_eq, Bool.not_eq_true'] at hh
                          have HR : Hid (Ptm g n a b d w (iN + 1) j1 e wc ∧ i1 ≤ iN + 1) := ⟨⟨HQ.out.1.more hh.1 hh.2, HQ.out.2⟩, Nat.le_succ_of_le HM.out⟩
                          have hi2 : iN + 1 ≤ n := by have := HR.out.1.1.ij; have := HR.out.1.1.jb; omega
                          clear HQ HU hh
                          go_wp2_with fail
                          exact ⟨⟨iN + 1, by go_num, hi2, HR.out⟩, by simp only [intOf]; omega⟩
                        | false =>
                          have HX : Hid (j1 < iN ∨ ltZ e[iN]! e[a]! = false) := by
                            have hh := HU.out
                            simp only [Bool.and_eq_false_iff, decide_eq_false_iff_not] at hh
                            rcases hh with q | q; exact .inl (by omega); exact .inr q
                          have HP : Hid (Ptm g n a b d w iN j1 e wc) := HQ.out
                          clear HQ HU
                          go_wp2_with fail
                          go_loopw [11] (fun v11 wr => ∃ j : Nat, v11 = .int .i64 j ∧ j < n ∧ Hid (Ptm g n a b d w iN j e wr ∧ (j < iN ∨ ltZ e[iN]! e[a]! = false) ∧ j ≤ j1)) (fun v11 _ => (intOf v11).toNat)
                          case atStart => exact ⟨j1, by go_num, by have := HP.out.1.jb; omega, HP.out, HX.out, Nat.le_refl _⟩
                          case round =>
                            obtain ⟨jN, rfl, hj, HQ0⟩ := hrel
                            have HQ : Hid (Ptm g n a b d w iN jN e wr) := HQ0.out.1
                            have HX0 : Hid (jN < iN ∨ ltZ e[iN]! e[a]! = false) := HQ0.out.2.1
                            have HM2 : Hid (jN ≤ j1) := HQ0.out.2.2
                            clear HQ0 HX
                            clear HP
                            obtain ⟨u, hu⟩ : ∃ u, (decide (iN ≤ jN) && !ltZ e[jN]! e[a]!) = u := ⟨_, rfl⟩
                            have HU : Hid ((decide (iN ≤ jN) && !ltZ e[jN]! e[a]!) = u) := hu
                            clear hu
                            go_upto_region 15 with fail
                            go_cut [129] from 115 to 131 (fun v wx => v = .bool u ∧ Hid (∃ m, wx = wr.drewN m))
                            case first =>
                              by_cases q : iN ≤ jN
                              · have d1 : decide ((iN : Int) ≤ (jN : Int)) = true := decide_eq_true (by omega)
                                have d2 : decide (iN ≤ jN) = true := decide_eq_true (by omega)
                                have l1 : jN < n := by have := HQ.out.1.jb; omega
                                have k1 := HQ.out.2.2.1.cell (i := jN) (by have := HQ.out.2.1; omega)
                                have k2 := HQ.out.2.2.1.cell (i := a) (by have := HQ.out.2.1; omega)
                                obtain ⟨x, hx⟩ : ∃ x, e[jN]! = x := ⟨_, rfl⟩
                                obtain ⟨z, hz⟩ : ∃ z, e[a]! = z := ⟨_, rfl⟩
                                rw [hx] at k1
                                rw [hz] at k2
                                have hv := HU.out
                                rw [d2, hx, hz, Bool.true_and] at hv
                                subst hv
                                clear HU hx hz HQ q HX0 HM2
                                go_quiet ((go_at_call 45; exact Calls.quiet_of_same (less_any x z _)))
                                go_wp2_with fail
                                go_meet
                                case rel => exact ⟨rfl, _, rfl⟩
                              · have d1 : decide ((iN : Int) ≤ (jN : Int)) = false := decide_eq_false (by omega)
                                have d2 : decide (iN ≤ jN) = false := decide_eq_false (by omega)
                                have hv := HU.out
                                rw [d2, Bool.false_and] at hv
                                subst hv
                                clear HU HQ q HX0 HM2
                                go_quiet (fail)
                                go_wp2_with fail
                                go_meet
                                case rel => exact ⟨rfl, _, rfl⟩
                            case rest =>
                              obtain ⟨rfl, HW⟩ := hcut
                              replace HQ : Hid (Ptm g n a b d w iN jN e wc) := by obtain ⟨m, rfl⟩ := HW.out; exact HQ.out.drew m
                              clear HW
                              cases u with
                              | true =>
                                have hh := HU.out
                                simp only [Bool.and_eq_true, decide_eq_true_eq, Bool.not_eq_true'] at hh
                                obtain ⟨k, hk⟩ : ∃ k, jN = k + 1 := ⟨jN - 1, by have := HQ.out.1.ia; omega⟩
                                have e4 : (jN : Int) - 1 = (k : Int) := by omega
                                have HR : Hid (Ptm g n a b d w iN k e wc ∧ (k < iN ∨ ltZ e[iN]! e[a]! = false) ∧ k ≤ j1 ∧ jN = k + 1) := ⟨⟨by have := HQ.out.1.less hh.1 hh.2; rw [hk, Nat.add_sub_cancel] at this; exact this, HQ.out.2⟩, by rcases HX0.out with q | q; exact .inl (by omega); exact .inr q, by have := HM2.out; omega, hk⟩
                                clear HQ HU hh hk HX0
                                go_wp2_with fail
                                have hjk := HR.out.2.2.2
                                exact ⟨⟨k, rfl, by omega, HR.out.1, HR.out.2.1, HR.out.2.2.1⟩, by simp only [intOf]; omega⟩
                              | false =>
                                have HX : Hid (jN < iN ∨ (ltZ e[jN]! e[a]! = true ∧ ltZ e[iN]! e[a]! = false)) := by
                                  have hh := HU.out
                                  simp only [Bool.and_eq_false_iff, decide_eq_false_iff_not, Bool.not_eq_false'] at hh
                                  rcases hh with q | q
                                  · exact .inl (by omega)
                                  · rcases HX0.out with p | p
                                    · exact .inl p
                                    · exact .inr ⟨q, p⟩
                                clear HX0
                                have HP : Hid (Ptm g n a b d w iN jN e wc) := HQ.out
                                clear HQ HU
                                obtain ⟨i, hiN⟩ : ∃ i, i = iN := ⟨_, rfl⟩
                                obtain ⟨j, hjN⟩ : ∃ j, j = jN := ⟨_, rfl⟩
                                subst hiN hjN
                                by_cases hgt : j < i
                                · have HGT : Hid (j < i) := hgt
                                  have d1 : decide ((i : Int) > (j : Int)) = true := decide_eq_true (by omega)
                                  have d2 : decide ((j : Int) < (i : Int)) = true := decide_eq_true (by omega)
                                  have d3 : decide (j < i) = true := decide_eq_true (by omega)
                                  clear hgt
                                  go_wp2_with fail
                                  have l1_ : j < n := by have := HP.out.1.jb; omega
                                  have ja : a ≤ j := by have := HP.out.1.ij; have := HP.out.1.ia; omega
                                  have k1 := HP.out.2.2.1.cell (i := j) (by have := HP.out.2.1; omega)
                                  have k2 := HP.out.2.2.1.cell (i := a) (by have := HP.out.2.1; omega)
                                  have g1 := HP.out.2.2.1.fz j
                                  have g2 := HP.out.2.2.1.fz a
                                  obtain ⟨s, hs⟩ : ∃ s, e[j]! = s := ⟨_, rfl⟩
                                  obtain ⟨t, ht⟩ : ∃ t, e[a]! = t := ⟨_, rfl⟩
                                  rw [hs] at k1
                                  rw [ht] at k2
                                  have HF : Hid (∀ m, Ptd a b d j (swp e j a) ∧ (swp e j a).size = n ∧ Rw g (swp e j a) (((wc.setCell ⟨g, j, none⟩ (.int .u8 t)).setCell ⟨g, a, none⟩ (.int .u8 s)).drewN m) ∧ Fr (On g) w (((wc.setCell ⟨g, j, none⟩ (.int .u8 t)).setCell ⟨g, a, none⟩ (.int .u8 s)).drewN m)) := fun m => by
                                    obtain ⟨q1, q2⟩ := HP.out.2.2.1.swp (i := j) (j := a) ht hs m
                                    exact ⟨HP.out.1.done HGT.out (by have := HP.out.2.1; omega), by rw [size_swp]; exact HP.out.2.1, q1, HP.out.2.2.2.trans q2⟩
                                  clear HP HX hs ht
                                  by_cases q : j = a
                                  · subst q
                                    obtain rfl : s = t := by rw [k1] at k2; cases k2; rfl
                                    clear k2 g2
                                    go_region
                                    go_wp2_with fail
                                    go_ret2
                                    exact ⟨_, _, _, rfl, HF.out 1⟩
                                  · go_region
                                    go_wp2_with fail
                                    go_ret2
                                    exact ⟨_, _, _, rfl, HF.out 1⟩
                                · have HGT : Hid (¬ j < i) := hgt
                                  have d1 : decide ((i : Int) > (j : Int)) = false := decide_eq_false (by omega)
                                  have d2 : decide ((j : Int) < (i : Int)) = false := decide_eq_false (by omega)
                                  have d3 : decide (j < i) = false := decide_eq_false (by omega)
                                  clear hgt
                                  go_wp2_with fail
                                  have hlt : i < j ∧ ltZ e[i]! e[a]! = false ∧ ltZ e[j]! e[a]! = true := by
                                    rcases HX.out with q | ⟨q1, q2⟩
                                    · exact absurd q HGT.out
                                    · refine ⟨?_, q2, q1⟩
                                      rcases Nat.lt_or_ge i j with r | r
                                      · exact r
                                      · have := HGT.out
                                        obtain rfl : i = j := by omega
                                        rw [q1] at q2; cases q2
                                  obtain ⟨k, hk⟩ : ∃ k, j = k + 1 := ⟨j - 1, by omega⟩
                                  have e4 : (j : Int) - 1 = (k : Int) := by omega
                                  have l1_ : i < n := by have := HP.out.1.jb; omega
                                  have l2_ : j < n := by have := HP.out.1.jb; omega
                                  have k1 := HP.out.2.2.1.cell (i := i) (by have := HP.out.2.1; omega)
                                  have k2 := HP.out.2.2.1.cell (i := j) (by have := HP.out.2.1; omega)
                                  have g1 := HP.out.2.2.1.fz i
                                  have g2 := HP.out.2.2.1.fz j
                                  obtain ⟨s, hs⟩ : ∃ s, e[i]! = s := ⟨_, rfl⟩
                                  obtain ⟨t, ht⟩ : ∃ t, e[j]! = t := ⟨_, rfl⟩
                                  rw [hs] at k1
                                  rw [ht] at k2
                                  have HF : Hid (∀ m, Ptm g n a b d w (i + 1) k (swp e i j) (((wc.setCell ⟨g, i, none⟩ (.int .u8 t)).setCell ⟨g, j, none⟩ (.int .u8 s)).drewN m)) := fun m => by
                                    obtain ⟨q1, q2⟩ := HP.out.2.2.1.swp (i := i) (j := j) ht hs m
                                    refine ⟨?_, by rw [size_swp]; exact HP.out.2.1, q1, HP.out.2.2.2.trans q2⟩
                                    have := HP.out.1.turn hlt.1 (by have := HP.out.2.1; omega) hlt.2.1 hlt.2.2
                                    rw [hk, Nat.add_sub_cancel] at this
                                    rw [hk]; exact this
                                  have hne : i ≠ j := by omega
                                  have HK : Hid (j = k + 1) := hk
                                  clear HP HX HGT hs ht hlt hk
                                  go_region
                                  go_wp2_with fail
                                  have q1 := HM.out
                                  have q2 := HM2.out
                                  have q3 := HK.out
                                  exact ⟨⟨i + 1, k, swp e i j, by go_num, rfl, by omega, by omega, HF.out 1⟩, by simp only [intOf]; omega⟩
end
end Go.Proofs.Ytmceophmdkcgcaa
/- What is drawn: a pivot, numbers at random, how long a number is. -/
namespace Go.Proofs.Ytmceophmdkcgcaa
open Go.ChangeShapes Go.WideShapes Go.ChangeAt Go.RowKit Go.Sort
set_option linter.unusedVariables false
set_option linter.unusedSimpArgs false
section
variable {g : Nat} {d : Array Int} {w w1 : World} {n cap : Nat}
set_option maxHeartbeats 4000000 in
set_option maxRecDepth 100000 in
theorem ord2_any {a b s q : Nat} (h : Rw g d w) (hn : d.size = n) (ha : a < n) (hb : b < n) (hq : Lc 3 q [.int .i64 s] w) (hs : s ≤ 100) :
    Calls Try.prog 56 #[.slice (some ⟨g, 0, none⟩) n cap, .int .i64 a, .int .i64 b, .pointer (some ⟨q, 0, none⟩)] w fun r w' => ∃ (x y s' : Nat), r = .returned (.tuple #[.int .i64 x, .int .i64 y]) ∧ (x = a ∧ y = b ∨ x = b ∧ y = a) ∧ s' ≤ s + 1 ∧ Hid (Lc 3 q [.int .i64 s'] w' ∧ Fr (On q) w w') := by
  have c1 := h.cell (i := a) (by omega)
  have c2 := h.cell (i := b) (by omega)
  obtain ⟨u, hu⟩ : ∃ u, d[a]! = u := ⟨_, rfl⟩
  obtain ⟨v, hv⟩ : ∃ v, d[b]! = v := ⟨_, rfl⟩
  rw [hu] at c1
  rw [hv] at c2
  have k1 := hq.at (j := 0) rfl
  have k2 := hq.fz 0
  have HQ : Hid (Lc 3 q [.int .i64 s] w) := hq
  clear hu hv h hn hq
  cases hl : ltZ v u with
  | false =>
    go_enter Try.func56, Try.ntmps56
    go_wp2_with fail
    go_quiet ((go_at_call 45; have HC := less_any v u; rw [hl] at HC; exact Calls.quiet_of_same (HC _)))
    go_wp2_with fail
    go_ret2
    exact ⟨a, b, s, rfl, .inl ⟨rfl, rfl⟩, by omega, HQ.out.kp (kp_drewN _ _), Fr.drewN _ _ _⟩
  | true =>
    have HE : Hid (∀ m, Lc 3 q [.int .i64 ((s + 1 : Nat) : Int)] ((w.drewN m).setCell ⟨q, 0, none⟩ (.int .i64 ((s : Int) + 1))) ∧ Fr (On q) w ((w.drewN m).setCell ⟨q, 0, none⟩ (.int .i64 ((s : Int) + 1)))) := fun m => by
      refine ⟨?_, (Fr.drewN _ _ _).trans (fr_set q 0 _ _)⟩
      have := (HQ.out.kp (kp_drewN w m)).set 0 (.int .i64 ((s : Int) + 1))
      simpa using this
    go_enter Try.func56, Try.ntmps56
    go_wp2_with fail
    go_quiet ((go_at_call 45; have HC := less_any v u; rw [hl] at HC; exact Calls.quiet_of_same (HC _)))
    replace k1 := kp_cell (kp_drewN w nq) k1
    replace k2 := (HQ.out.kp (kp_drewN w nq)).fz 0
    replace HE := HE.out nq
    obtain ⟨w5, hw5⟩ : ∃ w5, w.drewN nq = w5 := ⟨_, rfl⟩
    rw [hw5] at k1 k2 HE ⊢
    have HE2 : Hid _ := HE
    clear hw5 HE
    go_wp2_with fail
    go_ret2
    exact ⟨b, a, s + 1, rfl, .inr ⟨rfl, rfl⟩, by omega, HE2.out⟩
set_option maxHeartbeats 4000000 in
set_option maxRecDepth 100000 in
theorem med_any {a b c s q : Nat} (h : Rw g d w) (hn : d.size = n) (ha : a < n) (hb : b < n) (hc : c < n) (hq : Lc 3 q [.int .i64 s] w) (hs : s ≤ 90) :
    Calls Try.prog 54 #[.slice (some ⟨g, 0, none⟩) n cap, .int .i64 a, .int .i64 b, .int .i64 c, .pointer (some ⟨q, 0, none⟩)] w fun r w' => ∃ (x s' : Nat), r = .returned (.int .i64 x) ∧ (x = a ∨ x = b ∨ x = c) ∧ s' ≤ s + 3 ∧ Hid (Lc 3 q [.int .i64 s'] w' ∧ Fr (On q) w w') := by
  have hgq : g ≠ q := by
    rintro rfl
    obtain ⟨cur, h1, _⟩ := h
    unfold Lc at hq; rw [hq] at h1; cases h1
  have HH : Hid (Rw g d w ∧ d.size = n ∧ Lc 3 q [.int .i64 s] w) := ⟨h, hn, hq⟩
  clear h hn hq
  go_enter Try.func54, Try.ntmps54
  go_wp2_with fail
  refine Calls.mono (ord2_any HH.out.1 HH.out.2.1 ha hb HH.out.2.2 (by omega)) ?_
  rintro r w2 ⟨x1, y1, s1, rfl, hx1, hs1, H1⟩
  have HR1 : Hid (Rw g d w2) := HH.out.1.fr H1.out.2 hgq
  have lx1 : x1 < n := by omega
  have ly1 : y1 < n := by omega
  go_wp2_with fail
  refine Calls.mono (ord2_any HR1.out HH.out.2.1 ly1 hc H1.out.1 (by omega)) ?_
  rintro r w3 ⟨x2, y2, s2, rfl, hx2, hs2, H2⟩
  have HR2 : Hid (Rw g d w3) := HR1.out.fr H2.out.2 hgq
  have lx2 : x2 < n := by omega
  go_wp2_with fail
  refine Calls.mono (ord2_any HR2.out HH.out.2.1 lx1 lx2 H2.out.1 (by omega)) ?_
  rintro r w4 ⟨x3, y3, s3, rfl, hx3, hs3, H3⟩
  have HF : Hid (∃ s', s' ≤ s + 3 ∧ (y3 = a ∨ y3 = b ∨ y3 = c) ∧ Lc 3 q [.int .i64 s'] w4 ∧ Fr (On q) w w4) := ⟨s3, by omega, by omega, H3.out.1, (H1.out.2.trans H2.out.2).trans H3.out.2⟩
  clear H1 H2 H3 HR1 HR2 HH hx1 hx2 hx3 hs1 hs2 hs3
  go_wp2_with fail
  go_ret
  obtain ⟨s', q1, q2, q3⟩ := HF.out
  exact ⟨y3, s', rfl, q2, q1, q3⟩
set_option maxHeartbeats 4000000 in
set_option maxRecDepth 100000 in
theorem piv_any {a b : Nat} (h : Rw g d w) (hn : d.size = n) (hb : b ≤ n) (hn2 : n ≤ 40) (hab : a + 12 < b) :
    Calls Try.prog 42 #[.slice (some ⟨g, 0, none⟩) n cap, .int .i64 a, .int .i64 b] w fun r w' => ∃ (x : Nat) (y : Bool), r = .returned (.tuple #[.int .i64 x, .int .i64 (if y then 1 else 0)]) ∧ a ≤ x ∧ x < b ∧ Kp w w' := by
  obtain ⟨l, hl⟩ : ∃ l, b = a + l := ⟨b - a, by omega⟩
  obtain ⟨t, ht⟩ : ∃ t, t = l / 4 := ⟨_, rfl⟩
  obtain ⟨i, hi⟩ : ∃ i, i = a + t := ⟨_, rfl⟩
  obtain ⟨j, hj⟩ : ∃ j, j = a + t * 2 := ⟨_, rfl⟩
  obtain ⟨k, hk⟩ : ∃ k, k = a + t * 3 := ⟨_, rfl⟩
  have u1 : (b : Int) - (a : Int) = (l : Int) := by omega
  have u2 : (l : Int).tdiv 4 = (t : Int) := by rw [ht]; rfl
  have u3 : (l : Int) / 4 = (t : Int) := by omega
  have u4 : (a : Int) + (t : Int) = (i : Int) := by omega
  have u5 : (a : Int) + (t : Int) * 2 = (j : Int) := by omega
  have u6 : (a : Int) + (t : Int) * 3 = (k : Int) := by omega
  have d1 : decide ((l : Int) ≥ 8) = true := decide_eq_true (by omega)
  have d2 : decide ((8 : Int) ≤ (l : Int)) = true := decide_eq_true (by omega)
  have d2' : decide (8 ≤ l) = true := decide_eq_true (by omega)
  have d3 : decide ((l : Int) ≥ 50) = false := decide_eq_false (by omega)
  have d4 : decide ((50 : Int) ≤ (l : Int)) = false := decide_eq_false (by omega)
  have d4' : decide (50 ≤ l) = false := decide_eq_false (by omega)
  have HC : Hid (Calls Try.prog 54 #[.slice (some ⟨g, 0, none⟩) n cap, .int .i64 i, .int .i64 j, .int .i64 k, .pointer (some ⟨w.heap.size, 0, none⟩)] (w.alloc (.cells #[.int .i64 0] 3)) fun r w' => ∃ (x s : Nat), r = .returned (.int .i64 x) ∧ a ≤ x ∧ x < b ∧ s ≤ 3 ∧ w'.cell? ⟨w.heap.size, 0, none⟩ = some (.int .i64 s) ∧ Kp w w') := by
    refine (med_any (s := 0) (h.kp (kp_alloc _ _)) hn (by omega) (by omega) (by omega) (Lc.new w [.int .i64 0] 3) (by omega)).mono ?_
    rintro r w' ⟨x, s, hr, hx, hs, H⟩
    refine ⟨x, s, hr, by omega, by omega, by omega, H.out.1.at (j := 0) rfl, ?_⟩
    have := (kp_alloc w (.cells #[.int .i64 0] 3))
    exact ⟨H.out.2.os.trans this.os, H.out.2.tape.trans this.tape, H.out.2.output.trans this.output, Nat.le_trans this.size H.out.2.size, fun m hm => (H.out.2.block m (Nat.lt_of_lt_of_le hm this.size) (fun q => by unfold On at q; omega)).trans (this.block m hm)⟩
  have z1 : l ≤ 40 := by omega
  have z2 : a ≤ 40 := by omega
  have z3 : b ≤ 40 := by omega
  have z4 : t ≤ 10 := by omega
  have z5 : i ≤ 40 := by omega
  have z6 : j ≤ 40 := by omega
  have z7 : k ≤ 40 := by omega
  clear h hn hl ht hi hj hk hb hn2 hab
  go_enter Try.func42, Try.ntmps42
  go_wp2_with fail
  refine Calls.mono HC.out ?_
  rintro r w2 ⟨x, s, rfl, hx1, hx2, hs, c1, kp⟩
  have HK : Hid (a ≤ x ∧ x < b ∧ Kp w w2) := ⟨hx1, hx2, kp⟩
  clear HC kp hx1 hx2
  have e2 : ((s : Int) == 12) = false := by simp; omega
  have e3 : (s == 12) = false := by simp; omega
  by_cases q : s = 0
  · subst q
    go_wp2_with fail
    go_ret2
    exact ⟨x, true, rfl, HK.out⟩
  · have e1 : ((s : Int) == 0) = false := by simp; omega
    have e4 : (s == 0) = false := by simp; omega
    clear q hs
    go_wp2_with fail
    go_ret2
    exact ⟨x, false, rfl, HK.out⟩
end
end Go.Proofs.Ytmceophmdkcgcaa
/- Numbers at random, how long a number is; patterns are broken; is it sorted already? -/
namespace Go.Proofs.Ytmceophmdkcgcaa
open Go.ChangeShapes Go.WideShapes Go.ChangeAt Go.RowKit Go.Sort
set_option linter.unusedVariables false
set_option linter.unusedSimpArgs false
theorem same_cell (w : World) (b o : Nat) (v v' : Value) : (w.setCell ⟨b, o, none⟩ v).setCell ⟨b, o, none⟩ v' = w.setCell ⟨b, o, none⟩ v' := by
  have e : ∀ cur : Array Value, (cur.setIfInBounds o v).setIfInBounds o v' = cur.setIfInBounds o v' := fun cur => by
    apply Array.ext_getElem?
    intro i
    simp only [Array.getElem?_setIfInBounds, Array.size_setIfInBounds]
    split <;> rfl
  unfold World.setCell
  congr 1
  apply Array.ext_getElem?
  intro i
  simp only [Array.getElem?_modify]
  by_cases q : b = i
  · subst q
    simp only [if_true, Option.map_map]
    cases w.heap[b]? with
    | none => rfl
    | some ob =>
      simp only [Option.map_some, Function.comp]
      cases ob <;> simp [e]
  · simp [q]
/-- How long a small number is. -/
def blen (x : Nat) : Nat := if x = 0 then 0 else if x < 2 then 1 else if x < 4 then 2 else if x < 8 then 3 else if x < 16 then 4 else 5
section
variable {g : Nat} {d : Array Int} {w w1 : World} {n cap : Nat}
set_option maxHeartbeats 4000000 in
set_option maxRecDepth 100000 in
theorem xor_any {q X : Nat} (hX : X < 18446744073709551616) {T : TypeId} (hq : Lc T q [.int .u64 X] w) :
    Calls Try.prog 52 #[.pointer (some ⟨q, 0, none⟩)] w fun r w' => ∃ V : Nat, V < 18446744073709551616 ∧ r = .returned (.int .u64 V) ∧ Hid (Lc T q [.int .u64 V] w' ∧ Fr (On q) w w') := by
  obtain ⟨A, hA⟩ : ∃ A : Nat, A = X ^^^ (X * 8192 % 18446744073709551616) := ⟨_, rfl⟩
  obtain ⟨B, hB⟩ : ∃ B : Nat, B = A ^^^ (A / 128) := ⟨_, rfl⟩
  obtain ⟨C, hC⟩ : ∃ C : Nat, C = B ^^^ (B * 131072 % 18446744073709551616) := ⟨_, rfl⟩
  have lA : A < 18446744073709551616 := by rw [hA]; exact Nat.xor_lt_two_pow (n := 64) (by omega) (by omega)
  have lB : B < 18446744073709551616 := by rw [hB]; exact Nat.xor_lt_two_pow (n := 64) (by omega) (by omega)
  have lC : C < 18446744073709551616 := by rw [hC]; exact Nat.xor_lt_two_pow (n := 64) (by omega) (by omega)
  have e1 : bits .xor .u64 (X : Int) (IntKind.u64.wrap ((X : Int) * 8192)) = (A : Int) := by
    rw [IntKind.wrap_u64, show ((X : Int) * 8192 % 18446744073709551616) = ((X * 8192 % 18446744073709551616 : Nat) : Int) by omega, bits_xor_u64_nat _ _ hX (by omega), hA]
  have e2 : bits .xor .u64 (A : Int) ((A : Int) / 128) = (B : Int) := by
    rw [show ((A : Int) / 128) = ((A / 128 : Nat) : Int) by omega, bits_xor_u64_nat _ _ lA (by omega), hB]
  have e3 : bits .xor .u64 (B : Int) (IntKind.u64.wrap ((B : Int) * 131072)) = (C : Int) := by
    rw [IntKind.wrap_u64, show ((B : Int) * 131072 % 18446744073709551616) = ((B * 131072 % 18446744073709551616 : Nat) : Int) by omega, bits_xor_u64_nat _ _ lB (by omega), hC]
  clear hA hB hC
  have hss : ∀ v v', (w.setCell ⟨q, 0, none⟩ v).setCell ⟨q, 0, none⟩ v' = w.setCell ⟨q, 0, none⟩ v' := same_cell w q 0
  have hc := hq.at (j := 0) rfl
  have hf := hq.fz 0
  have HE : Hid (Lc T q [.int .u64 C] ((w.setCell ⟨q, 0, none⟩ (.int .u64 C)).drewN 3) ∧ Fr (On q) w ((w.setCell ⟨q, 0, none⟩ (.int .u64 C)).drewN 3)) := by
    refine ⟨?_, (fr_set q 0 _ _).trans (Fr.drewN _ _ _)⟩
    have := (hq.set 0 (.int .u64 C)).kp (kp_drewN _ 3)
    simpa using this
  clear hq
  go_enter Try.func52, Try.ntmps52
  go_wp2
  go_region
  all_goals go_wp2
  all_goals go_region
  all_goals go_wp2
  all_goals go_region
  all_goals go_wp2
  go_ret
  exact ⟨C, lC, rfl, HE.out⟩
theorem wrap_len {x : Nat} {B : UInt8} (h : B.toNat = blen x) : wrap64 (wrap64 (B.toNat : Int)) = (blen x : Int) := by
  rw [h]
  have : blen x ≤ 5 := by unfold blen; repeat' split
                          all_goals omega
  unfold wrap64; omega
set_option maxHeartbeats 4000000 in
set_option maxRecDepth 100000 in
theorem len64_any {x : Nat} (hx : x < 27) : Calls Try.prog 49 #[.int .u64 x] w fun r w' => r = .returned (.int .i64 (blen x)) ∧ w' = w := by
  have hc : x = 0 ∨ x = 1 ∨ x = 2 ∨ x = 3 ∨ x = 4 ∨ x = 5 ∨ x = 6 ∨ x = 7 ∨ x = 8 ∨ x = 9 ∨ x = 10 ∨ x = 11 ∨ x = 12 ∨ x = 13 ∨ x = 14 ∨ x = 15 ∨ x = 16 ∨ x = 17 ∨ x = 18 ∨ x = 19 ∨ x = 20 ∨ x = 21 ∨ x = 22 ∨ x = 23 ∨ x = 24 ∨ x = 25 ∨ x = 26 := by omega
  clear hx
  rcases hc with rfl | rfl | rfl | rfl | rfl | rfl | rfl | rfl | rfl | rfl | rfl | rfl | rfl | rfl | rfl | rfl | rfl | rfl | rfl | rfl | rfl | rfl | rfl | rfl | rfl | rfl | rfl <;> (go_enter Try.func49, Try.ntmps49; go_wp2; go_ret; exact ⟨congrArg (fun z => Ending.returned (Value.int .i64 z)) (wrap_len (by rfl)), rfl⟩)
set_option maxHeartbeats 4000000 in
set_option maxRecDepth 100000 in
theorem len_any {x : Nat} (hx : x < 27) : Calls Try.prog 38 #[.int .u64 x] w fun r w' => r = .returned (.int .i64 (blen x)) ∧ w' = w := by
  have HC : Hid (∀ W, Calls Try.prog 49 #[.int .u64 x] W fun r w' => r = .returned (.int .i64 (blen x)) ∧ w' = W) := fun W => len64_any hx
  go_enter Try.func38, Try.ntmps38
  go_wp2_with fail
  refine Calls.mono (HC.out _) ?_
  rintro r _ ⟨rfl, rfl⟩
  go_wp2_with fail
  go_ret
  exact ⟨rfl, rfl⟩
set_option maxHeartbeats 4000000 in
set_option maxRecDepth 100000 in
theorem pow_any {x : Nat} (h8 : 8 ≤ x) (hx : x < 27) : Calls Try.prog 51 #[.int .i64 x] w fun r w' => ∃ M : Nat, r = .returned (.int .u64 M) ∧ (x < 16 ∧ M = 16 ∨ 16 ≤ x ∧ M = 32) ∧ w' = w := by
  have HC : Hid (∀ W, Calls Try.prog 38 #[.int .u64 x] W fun r w' => r = .returned (.int .i64 (blen x)) ∧ w' = W) := fun W => len_any hx
  go_enter Try.func51, Try.ntmps51
  go_wp2_with fail
  refine Calls.mono (HC.out _) ?_
  rintro r _ ⟨rfl, rfl⟩
  by_cases q : x < 16
  · have e : blen x = 4 := by unfold blen; rw [if_neg (by omega), if_neg (by omega), if_neg (by omega), if_neg (by omega), if_pos q]
    rw [e]
    clear HC e
    go_wp2_with fail
    go_ret
    exact ⟨16, rfl, .inl ⟨q, rfl⟩, rfl⟩
  · have e : blen x = 5 := by unfold blen; rw [if_neg (by omega), if_neg (by omega), if_neg (by omega), if_neg (by omega), if_neg q]
    rw [e]
    clear HC e
    go_wp2_with fail
    go_ret
    exact ⟨32, rfl, .inr ⟨by omega, rfl⟩, rfl⟩
/-- While patterns are broken. -/
def Brk (g n a b q : Nat) (d : Array Int) (w : World) (R : Nat) (e : Array Int) (W : World) : Prop := PermIn a b d e ∧ e.size = n ∧ Rw g e W ∧ Lc 87 q [.int .u64 R] W ∧ R < 18446744073709551616 ∧ Fr (On g) w W
set_option maxHeartbeats 16000000 in
set_option maxRecDepth 100000 in
theorem brk_any {a b : Nat} (h : Rw g d w) (hn : d.size = n) (hb : b ≤ n) (hn2 : n ≤ 26) (hab : a + 12 < b) :
    Calls Try.prog 41 #[.slice (some ⟨g, 0, none⟩) n cap, .int .i64 a, .int .i64 b] w fun r w' => r = .returned (.tuple #[]) ∧ ∃ e, PermIn a b d e ∧ e.size = n ∧ Rw g e w' ∧ Fr (On g) w w' := by
  obtain ⟨l, hl⟩ : ∃ l, b = a + l := ⟨b - a, by omega⟩
  obtain ⟨t, ht⟩ : ∃ t, t = l / 4 := ⟨_, rfl⟩
  obtain ⟨j, hj⟩ : ∃ j, j = a + t * 2 := ⟨_, rfl⟩
  obtain ⟨i0, hi0⟩ : ∃ i, j = i + 1 := ⟨j - 1, by omega⟩
  obtain ⟨j1, hj1⟩ : ∃ j1, j1 = j + 1 := ⟨_, rfl⟩
  have u1 : (b : Int) - (a : Int) = (l : Int) := by omega
  have u2 : (l : Int).tdiv 4 = (t : Int) := by rw [ht]; rfl
  have u3 : (l : Int) / 4 = (t : Int) := by omega
  have u5 : (a : Int) + (t : Int) * 2 = (j : Int) := by omega
  have u6 : (j : Int) - 1 = (i0 : Int) := by omega
  have u7 : (j : Int) + 1 = (j1 : Int) := by omega
  have d1 : decide ((l : Int) ≥ 8) = true := decide_eq_true (by omega)
  have d2 : decide ((8 : Int) ≤ (l : Int)) = true := decide_eq_true (by omega)
  have d2' : decide (8 ≤ l) = true := decide_eq_true (by omega)
  have z1 : l ≤ 26 := by omega
  have z2 : a ≤ 26 := by omega
  have z3 : b ≤ 26 := by omega
  have z4 : t ≤ 10 := by omega
  have z5 : j ≤ 26 := by omega
  have z6 : j1 ≤ 27 := by omega
  have HP : Hid (∀ W, Calls Try.prog 51 #[.int .i64 l] W fun r w' => ∃ M : Nat, r = .returned (.int .u64 M) ∧ (l < 16 ∧ M = 16 ∨ 16 ≤ l ∧ M = 32) ∧ w' = W) := fun W => pow_any (by omega) (by omega)
  have H0 : Hid (Brk g n a b w.heap.size d w l d (w.alloc (.cells #[.int .u64 l] 87))) := ⟨permIn_refl _ _ _, hn, h.kp (kp_alloc _ _), Lc.new w [.int .u64 l] 87, by omega, Fr.alloc _ _ _⟩
  have HN : Hid (b = a + l ∧ t = l / 4 ∧ j = a + t * 2 ∧ j = i0 + 1 ∧ j1 = j + 1 ∧ b ≤ n ∧ 12 < l) := ⟨hl, ht, hj, hi0, hj1, hb, by omega⟩
  clear h hn hl ht hj hi0 hj1 hb hab
  go_enter Try.func41, Try.ntmps41
  go_wp2_with fail
  refine Calls.mono (HP.out _) ?_
  rintro r _ ⟨M, rfl, hM, rfl⟩
  have HM : Hid (l < 16 ∧ M = 16 ∨ 16 ≤ l ∧ M = 32) := hM
  have hM2 : M ≤ 32 := by omega
  have hM1 : 16 ≤ M := by omega
  obtain ⟨M1, hM3⟩ : ∃ M1, M = M1 + 1 := ⟨M - 1, by omega⟩
  have u8 : (M : Int) - 1 = (M1 : Int) := by omega
  have HM3 : Hid (M = M1 + 1) := hM3
  clear HP hM hM3
  go_wp2_with fail
  go_loopw [9] (fun v9 wr => ∃ (i R : Nat) (e : Array Int), v9 = .int .i64 i ∧ i0 ≤ i ∧ i ≤ i0 + 3 ∧ Hid (Brk g n a b w.heap.size d w R e wr)) (fun v9 _ => i0 + 3 - (intOf v9).toNat)
  case atStart => exact ⟨i0, l, d, rfl, Nat.le_refl _, by omega, H0.out⟩
  case round =>
    clear H0
    obtain ⟨i, R, e, rfl, hi1, hi2, HB⟩ := hrel
    by_cases q : i ≤ j1
    · have e1 : decide ((i : Int) ≤ (j1 : Int)) = true := decide_eq_true (by omega)
      have e2 : decide (i ≤ j1) = true := decide_eq_true (by omega)
      have HX : Hid (Calls Try.prog 52 #[.pointer (some ⟨w.heap.size, 0, none⟩)] wr fun r w' => ∃ V : Nat, V < 18446744073709551616 ∧ r = .returned (.int .u64 V) ∧ Hid (Lc 87 w.heap.size [.int .u64 V] w' ∧ Fr (On w.heap.size) wr w')) := xor_any HB.out.2.2.2.2.1 HB.out.2.2.2.1
      have hij1 : i ≤ j1 := q
      clear q
      go_wp2_with fail
      refine Calls.mono HX.out ?_
      rintro r w2 ⟨V, lV, rfl, H2⟩
      have hgq : g ≠ w.heap.size := by
        intro q0
        obtain ⟨cur, h1, _⟩ := HB.out.2.2.1
        have := HB.out.2.2.2.1
        unfold Lc at this; rw [← q0, h1] at this; cases this
      have HB2 : Hid (Brk g n a b w.heap.size d w V e w2) := ⟨HB.out.1, HB.out.2.1, HB.out.2.2.1.fr H2.out.2 hgq, H2.out.1, lV, HB.out.2.2.2.2.2.trans' H2.out.2 fun k hk q0 => absurd hk (by unfold On at q0; omega)⟩
      obtain ⟨O, hO⟩ : ∃ O : Nat, O = V &&& M1 := ⟨_, rfl⟩
      have lO : O ≤ M1 := by rw [hO]; exact Nat.and_le_right
      have e3 : bits .and .u64 (V : Int) (M1 : Int) = (O : Int) := by rw [bits_and_u64_nat _ _ lV (by omega), hO]
      have lM : M1 ≤ 31 := by omega
      clear HX HB hO H2 hgq lV
      have HT : Hid (∀ p x y, a ≤ p → p < b → e[i]! = x → e[p]! = y → ∀ m, Brk g n a b w.heap.size d w V (swp e i p) (((w2.setCell ⟨g, i, none⟩ (.int .u8 y)).setCell ⟨g, p, none⟩ (.int .u8 x)).drewN m)) := fun p x y p1 p2 hx hy m => by
        have hN := HN.out
        obtain ⟨q1, q2⟩ := HB2.out.2.2.1.swp (i := i) (j := p) hy hx m
        refine ⟨permIn_trans _ _ _ _ _ HB2.out.1 (swp_permIn e a b i p (by omega) (by omega) p1 p2 (by rw [HB2.out.2.1]; omega)), by rw [size_swp]; exact HB2.out.2.1, q1, HB2.out.2.2.2.1.fr q2 ?_, HB2.out.2.2.2.2.1, HB2.out.2.2.2.2.2.trans q2⟩
        intro q0
        unfold On at q0
        obtain ⟨cur, h1, _⟩ := HB2.out.2.2.1
        have := HB2.out.2.2.2.1
        unfold Lc at this; rw [q0, h1] at this; cases this
      have li : i < n := by have := HN.out; omega
      have c1 := HB2.out.2.2.1.cell (i := i) (by rw [HB2.out.2.1]; exact li)
      have f1 := HB2.out.2.2.1.fz i
      obtain ⟨x, hx⟩ : ∃ x, e[i]! = x := ⟨_, rfl⟩
      rw [hx] at c1
      have HX : Hid (e[i]! = x) := hx
      clear hx
      by_cases q : l ≤ O
      · have e4 : decide ((O : Int) ≥ (l : Int)) = true := decide_eq_true (by omega)
        have e5 : decide ((l : Int) ≤ (O : Int)) = true := decide_eq_true (by omega)
        have e6 : decide (l ≤ O) = true := decide_eq_true (by omega)
        obtain ⟨o, ho⟩ : ∃ o, O = l + o := ⟨O - l, by omega⟩
        have u9 : (O : Int) - (l : Int) = (o : Int) := by omega
        obtain ⟨p, hp⟩ : ∃ p, p = a + o := ⟨_, rfl⟩
        have u10 : (a : Int) + (o : Int) = (p : Int) := by omega
        have pb : a ≤ p ∧ p < b := by have := HN.out; have := HM.out; have := HM3.out; omega
        have lo : o ≤ 32 := by omega
        have lp : p < n := by have := HN.out; omega
        have c2 := HB2.out.2.2.1.cell (i := p) (by rw [HB2.out.2.1]; exact lp)
        have f2 := HB2.out.2.2.1.fz p
        obtain ⟨y, hy⟩ : ∃ y, e[p]! = y := ⟨_, rfl⟩
        rw [hy] at c2
        have HE : Hid (∀ m, Brk g n a b w.heap.size d w V (swp e i p) (((w2.setCell ⟨g, i, none⟩ (.int .u8 y)).setCell ⟨g, p, none⟩ (.int .u8 x)).drewN m)) := HT.out p x y pb.1 pb.2 HX.out hy
        have hie : i + 1 ≤ i0 + 3 := by have := HN.out; omega
        clear HT HX hy hp pb HB2 HM HM3 q ho
        by_cases hne : i = p
        · subst hne
          obtain rfl : x = y := by rw [c1] at c2; cases c2; rfl
          clear c2 f2 lp
          go_wp2_with fail
          go_region
          go_wp2_with fail
          exact ⟨⟨i + 1, V, _, by go_num, by omega, by omega, HE.out 1⟩, by simp only [intOf]; omega⟩
        · go_wp2_with fail
          go_region
          go_wp2_with fail
          exact ⟨⟨i + 1, V, _, by go_num, by omega, by omega, HE.out 1⟩, by simp only [intOf]; omega⟩
      · have e4 : decide ((O : Int) ≥ (l : Int)) = false := decide_eq_false (by omega)
        have e5 : decide ((l : Int) ≤ (O : Int)) = false := decide_eq_false (by omega)
        have e6 : decide (l ≤ O) = false := decide_eq_false (by omega)
        obtain ⟨p, hp⟩ : ∃ p, p = a + O := ⟨_, rfl⟩
        have u10 : (a : Int) + (O : Int) = (p : Int) := by omega
        have pb : a ≤ p ∧ p < b := by have := HN.out; have := HM.out; have := HM3.out; omega
        have lp : p < n := by have := HN.out; omega
        have c2 := HB2.out.2.2.1.cell (i := p) (by rw [HB2.out.2.1]; exact lp)
        have f2 := HB2.out.2.2.1.fz p
        obtain ⟨y, hy⟩ : ∃ y, e[p]! = y := ⟨_, rfl⟩
        rw [hy] at c2
        have HE : Hid (∀ m, Brk g n a b w.heap.size d w V (swp e i p) (((w2.setCell ⟨g, i, none⟩ (.int .u8 y)).setCell ⟨g, p, none⟩ (.int .u8 x)).drewN m)) := HT.out p x y pb.1 pb.2 HX.out hy
        have hie : i + 1 ≤ i0 + 3 := by have := HN.out; omega
        clear HT HX hy hp pb HB2 HM HM3 q
        by_cases hne : i = p
        · subst hne
          obtain rfl : x = y := by rw [c1] at c2; cases c2; rfl
          clear c2 f2 lp
          go_wp2_with fail
          go_region
          go_wp2_with fail
          exact ⟨⟨i + 1, V, _, by go_num, by omega, by omega, HE.out 1⟩, by simp only [intOf]; omega⟩
        · go_wp2_with fail
          go_region
          go_wp2_with fail
          exact ⟨⟨i + 1, V, _, by go_num, by omega, by omega, HE.out 1⟩, by simp only [intOf]; omega⟩
    · have e1 : decide ((i : Int) ≤ (j1 : Int)) = false := decide_eq_false (by omega)
      have e2 : decide (i ≤ j1) = false := decide_eq_false (by omega)
      have HE : Hid (∃ e, PermIn a b d e ∧ e.size = n ∧ Rw g e wr ∧ Fr (On g) w wr) := ⟨e, HB.out.1, HB.out.2.1, HB.out.2.2.1, HB.out.2.2.2.2.2⟩
      clear q HB
      go_wp2_with fail
      go_end0
      exact ⟨rfl, HE.out⟩
end
end Go.Proofs.Ytmceophmdkcgcaa
/- Is it sorted already? -/
namespace Go.Proofs.Ytmceophmdkcgcaa
open Go.ChangeShapes Go.WideShapes Go.ChangeAt Go.RowKit Go.Sort
set_option linter.unusedVariables false
set_option linter.unusedSimpArgs false
section
variable {g : Nat} {d : Array Int} {w w1 : World} {n cap : Nat}
theorem sorted_next {a b : Nat} (h : ∀ x, a + 1 ≤ x → x < b → ltZ d[x]! d[x - 1]! = false) : SortedIn ltZ a b d := by
  intro i j hi hij hj
  obtain ⟨m, rfl⟩ : ∃ m, j = i + 1 + m := ⟨j - (i + 1), by omega⟩
  clear hij
  induction m with
  | zero => exact h (i + 1) (by omega) (by omega)
  | succ m ih =>
    have h1 := ih (by omega)
    have h2 := h (i + 1 + (m + 1)) (by omega) (by omega)
    rw [show i + 1 + (m + 1) - 1 = i + 1 + m by omega] at h2
    exact swoZ.ntrans _ _ _ h2 h1
set_option maxHeartbeats 16000000 in
set_option maxRecDepth 100000 in
theorem pti_any {a b : Nat} (h : Rw g d w) (hn : d.size = n) (hb : b ≤ n) (hn2 : n ≤ 40) (hab : a < b) :
    Calls Try.prog 44 #[.slice (some ⟨g, 0, none⟩) n cap, .int .i64 a, .int .i64 b] w fun r w' => ∃ y : Bool, r = .returned (.bool y) ∧ Hid ((y = true → SortedIn ltZ a b d) ∧ Kp w w') := by
  obtain ⟨l, hl⟩ : ∃ l, b = a + l := ⟨b - a, by omega⟩
  have u1 : (b : Int) - (a : Int) = (l : Int) := by omega
  have d1 : decide ((l : Int) < 50) = true := decide_eq_true (by omega)
  have d2 : decide (l < 50) = true := decide_eq_true (by omega)
  have z1 : l ≤ 40 := by omega
  have z3 : b ≤ 40 := by omega
  have z2 : a ≤ 40 := by omega
  have HR : Hid (Rw g d w ∧ d.size = n ∧ b ≤ n) := ⟨h, hn, hb⟩
  clear h hn hl hb
  go_enter Try.func44, Try.ntmps44
  go_wp2_with fail
  go_loopw [7, 8] (fun v7 v8 wr => v7 = .int .i64 ((a + 1 : Nat) : Int) ∧ v8 = .int .i64 0 ∧ w = wr) (fun _ _ _ => 0)
  case atStart => exact ⟨by go_num, rfl, rfl⟩
  case round =>
    obtain ⟨rfl, rfl, rfl⟩ := hrel
    go_wp2_with fail
    go_loopw [7] (fun v7 wr2 => ∃ (i : Nat), v7 = .int .i64 i ∧ a + 1 ≤ i ∧ i ≤ b ∧ Hid ((∀ x, a + 1 ≤ x → x < i → ltZ d[x]! d[x - 1]! = false) ∧ Kp w wr2)) (fun v7 _ => b - (intOf v7).toNat)
    case atStart => exact ⟨a + 1, by go_num, Nat.le_refl _, by omega, fun x h1 h2 => by omega, Below.refl _ _⟩
    case round =>
      obtain ⟨i, rfl, hi1, hi2, HQ⟩ := hrel
      obtain ⟨k, hk⟩ : ∃ k, i = k + 1 := ⟨i - 1, by omega⟩
      have e4 : (i : Int) - 1 = (k : Int) := by omega
      obtain ⟨u, hu⟩ : ∃ u, (decide (i < b) && !ltZ d[i]! d[k]!) = u := ⟨_, rfl⟩
      have HU : Hid ((decide (i < b) && !ltZ d[i]! d[k]!) = u ∧ i = k + 1) := ⟨hu, hk⟩
      clear hu hk
      go_upto_region 5 with fail
      go_cut [32] from 17 to 34 (fun v wx => v = .bool u ∧ Hid (∃ m, wx = wr.drewN m))
      case first =>
        by_cases q : i < b
        · have g1 : decide ((i : Int) < (b : Int)) = true := decide_eq_true (by omega)
          have g2 : decide (i < b) = true := decide_eq_true (by omega)
          have R2 := HR.out.1.kp HQ.out.2
          have l1 : i < n := by have := HR.out.2.2; omega
          have l2 : k < n := by have := HU.out.2; omega
          have k1 := R2.cell (i := i) (by rw [HR.out.2.1]; exact l1)
          have k2 := R2.cell (i := k) (by rw [HR.out.2.1]; exact l2)
          obtain ⟨x, hx⟩ : ∃ x, d[i]! = x := ⟨_, rfl⟩
          obtain ⟨z, hz⟩ : ∃ z, d[k]! = z := ⟨_, rfl⟩
          rw [hx] at k1
          rw [hz] at k2
          have hv := HU.out.1
          rw [g2, hx, hz, Bool.true_and] at hv
          subst hv
          clear HU hx hz HQ q R2 HR
          go_quiet ((go_at_call 45; exact Calls.quiet_of_same (less_any x z _)))
          go_wp2_with fail
          go_meet
          case rel => exact ⟨rfl, _, rfl⟩
        · have g1 : decide ((i : Int) < (b : Int)) = false := decide_eq_false (by omega)
          have g2 : decide (i < b) = false := decide_eq_false (by omega)
          have hv := HU.out.1
          rw [g2, Bool.false_and] at hv
          subst hv
          clear HU HQ q HR
          go_quiet (fail)
          go_wp2_with fail
          go_meet
          case rel => exact ⟨rfl, _, rfl⟩
      case rest =>
        obtain ⟨rfl, HW⟩ := hcut
        have HK : Hid (Kp w wc) := by obtain ⟨m, rfl⟩ := HW.out; exact kp_trans HQ.out.2 (kp_drewN _ _)
        clear HW
        cases u with
        | true =>
          have hh := HU.out.1
          simp only [Bool.and_eq_true, decide_eq_true_eq, Bool.not_eq_true'] at hh
          have HS : Hid ((∀ x, a + 1 ≤ x → x < i + 1 → ltZ d[x]! d[x - 1]! = false) ∧ Kp w wc) := ⟨fun x h1 h2 => by
            rcases Nat.lt_succ_iff_lt_or_eq.1 h2 with q | rfl
            · exact HQ.out.1 x h1 q
            · have hk := HU.out.2
              rw [hk, Nat.add_sub_cancel, ← hk]; exact hh.2, HK.out⟩
          have hib : i + 1 ≤ b := by omega
          clear HQ HU hh HK HR
          go_wp2_with fail
          exact ⟨⟨i + 1, by go_num, by omega, hib, HS.out⟩, by simp only [intOf]; omega⟩
        | false =>
          by_cases q : i = b
          · have HS : Hid (SortedIn ltZ a b d) := sorted_next fun x h1 h2 => HQ.out.1 x h1 (by omega)
            subst q
            have g3 : ((i : Int) == (i : Int)) = true := by simp
            clear HQ HU HR
            go_wp2_with fail
            go_ret
            exact ⟨true, rfl, fun _ => HS.out, HK.out⟩
          · have g3 : ((i : Int) == (b : Int)) = false := by simp; omega
            have g4 : (i == b) = false := by simp; omega
            clear HQ HU HR q
            go_wp2_with fail
            go_ret
            exact ⟨false, rfl, (fun h => by cases h), HK.out⟩
end
end Go.Proofs.Ytmceophmdkcgcaa
/- Parts that are sorted are the whole, sorted. -/
namespace Go.Proofs.Ytmceophmdkcgcaa
open Go.ChangeShapes Go.WideShapes Go.ChangeAt Go.RowKit Go.Sort
set_option linter.unusedVariables false
set_option linter.unusedSimpArgs false
section
variable {d e e1 e2 e3 : Array Int} {a b m : Nat}
/-- No two are the same. -/
def Dis (a b : Nat) (d : Array Int) : Prop := ∀ i j, a ≤ i → i < j → j < b → d[i]! ≠ d[j]!
/-- What lies ahead of a is less than all of them. -/
def Blw (a b : Nat) (d : Array Int) : Prop := a = 0 ∨ ∀ i, a ≤ i → i < b → ltZ d[a - 1]! d[i]! = true
theorem dis_iff (hb : b ≤ d.size) : Dis a b d ↔ (d.extract a b).toList.Nodup := by
  rw [extract_toList d a b hb, List.Nodup, List.pairwise_map, List.pairwise_iff_getElem]
  constructor
  · intro h i j hi hj hij
    simp only [List.length_range'] at hi hj
    simp only [List.getElem_range', Nat.one_mul]
    exact h (a + i) (a + j) (by omega) (by omega) (by omega)
  · intro h i j hi hij hj
    have := h (i - a) (j - a) (by simp; omega) (by simp; omega) (by omega)
    simp only [List.getElem_range', Nat.one_mul] at this
    rw [show a + (i - a) = i by omega, show a + (j - a) = j by omega] at this
    exact this
theorem Dis.perm (h : Dis a b d) (hp : PermIn a b d e) (hb : b ≤ d.size) : Dis a b e :=
  (dis_iff (by rw [hp.1]; exact hb)).2 (hp.2.2.nodup_iff.2 ((dis_iff hb).1 h))
theorem Dis.sub {a' b' : Nat} (h : Dis a b d) (ha : a ≤ a') (hb : b' ≤ b) : Dis a' b' d := fun i j h1 h2 h3 => h i j (by omega) h2 (by omega)
theorem Dis.same {a' b' : Nat} (h : Dis a' b' d) (he : ∀ i, a' ≤ i → i < b' → e[i]! = d[i]!) : Dis a' b' e := fun i j h1 h2 h3 => by rw [he i h1 (by omega), he j (by omega) h3]; exact h i j h1 h2 h3
theorem Blw.perm (h : Blw a b d) (hp : PermIn a b d e) (hb : b ≤ d.size) : Blw a b e := by
  rcases h with h | h
  · exact .inl h
  · by_cases q : a = 0
    · exact .inl q
    · refine .inr ?_
      rw [hp.2.1 (a - 1) (.inl (by omega))]
      exact permIn_all d e a b (fun x => ltZ d[a - 1]! x = true) hb hp h
theorem Blw.sub {b' : Nat} (h : Blw a b d) (hb : b' ≤ b) : Blw a b' d := by
  rcases h with h | h
  · exact .inl h
  · exact .inr fun i h1 h2 => h i h1 (by omega)
theorem perm_up (h : PermIn a b d e) {a' b' : Nat} (ha : a' ≤ a) (hb : b ≤ b') (hs : b' ≤ d.size) : PermIn a' b' d e := permIn_mono d e a b a' b' ha hb hs h
/-- What holds of a row whose two parts were sorted. -/
theorem parts_sorted (hm : e3[m]! = e1[m]!) (hl : ∀ i, a ≤ i → i < m → ltZ e3[i]! e1[m]! = true) (hu : ∀ i, m < i → i < b → ltZ e3[i]! e1[m]! = false) (s1 : SortedIn ltZ a m e3) (s2 : SortedIn ltZ (m + 1) b e3) : SortedIn ltZ a b e3 := by
  intro i j hi hij hj
  by_cases q1 : j < m
  · exact s1 i j hi hij q1
  · by_cases q2 : m < i
    · exact s2 i j (by omega) hij hj
    · by_cases q3 : i < m
      · have h1 := hl i hi q3
        by_cases q4 : j = m
        · subst q4; rw [hm]; simp only [ltZ, decide_eq_true_eq, decide_eq_false_iff_not] at *; omega
        · have h2 := hu j (by omega) hj
          simp only [ltZ, decide_eq_true_eq, decide_eq_false_iff_not] at *; omega
      · obtain rfl : i = m := by omega
        rw [hm]; exact hu j (by omega) hj
/-- The first part is sorted; then the second one. -/
theorem glue_lo (hs : b ≤ e.size) (h : Ptd a b e m e1) (p1 : PermIn a m e1 e2) (s1 : SortedIn ltZ a m e2) (p2 : PermIn (m + 1) b e2 e3) (s2 : SortedIn ltZ (m + 1) b e3) : PermIn a b e e3 ∧ SortedIn ltZ a b e3 := by
  have am := h.am
  have mb := h.mb
  have z1 : e1.size = e.size := h.perm.1
  have z2 : e2.size = e1.size := p1.1
  refine ⟨permIn_trans _ _ _ _ _ h.perm (permIn_trans _ _ _ _ _ (perm_up p1 (Nat.le_refl _) (by omega) (by omega)) (perm_up p2 (by omega) (Nat.le_refl _) (by omega))), ?_⟩
  have hm : e3[m]! = e1[m]! := by rw [p2.2.1 m (.inl (by omega)), p1.2.1 m (.inr (by omega))]
  have k1 : ∀ i, i < m + 1 → e3[i]! = e2[i]! := fun i hi => p2.2.1 i (.inl hi)
  have k2 : ∀ i, m ≤ i → e2[i]! = e1[i]! := fun i hi => p1.2.1 i (.inr hi)
  refine parts_sorted hm (fun i h1 h2 => ?_) (fun i h1 h2 => ?_) (fun i j h1 h2 h3 => by rw [k1 i (by omega), k1 j (by omega)]; exact s1 i j h1 h2 h3) s2
  · rw [k1 i (by omega)]
    exact permIn_all e1 e2 a m (fun x => ltZ x e1[m]! = true) (by omega) p1 (fun i q1 q2 => h.lo i q1 q2) i h1 h2
  · exact permIn_all e2 e3 (m + 1) b (fun x => ltZ x e1[m]! = false) (by omega) p2 (fun i q1 q2 => by rw [k2 i (by omega)]; exact h.up i (by omega) q2) i (by omega) h2
/-- The second part is sorted; then the first one. -/
theorem glue_up (hs : b ≤ e.size) (h : Ptd a b e m e1) (p1 : PermIn (m + 1) b e1 e2) (s1 : SortedIn ltZ (m + 1) b e2) (p2 : PermIn a m e2 e3) (s2 : SortedIn ltZ a m e3) : PermIn a b e e3 ∧ SortedIn ltZ a b e3 := by
  have am := h.am
  have mb := h.mb
  have z1 : e1.size = e.size := h.perm.1
  have z2 : e2.size = e1.size := p1.1
  refine ⟨permIn_trans _ _ _ _ _ h.perm (permIn_trans _ _ _ _ _ (perm_up p1 (by omega) (Nat.le_refl _) (by omega)) (perm_up p2 (Nat.le_refl _) (by omega) (by omega))), ?_⟩
  have hm : e3[m]! = e1[m]! := by rw [p2.2.1 m (.inr (by omega)), p1.2.1 m (.inl (by omega))]
  have k1 : ∀ i, m ≤ i → e3[i]! = e2[i]! := fun i hi => p2.2.1 i (.inr hi)
  have k2 : ∀ i, i < m + 1 → e2[i]! = e1[i]! := fun i hi => p1.2.1 i (.inl hi)
  refine parts_sorted hm (fun i h1 h2 => ?_) (fun i h1 h2 => ?_) s2 (fun i j h1 h2 h3 => by rw [k1 i (by omega), k1 j (by omega)]; exact s1 i j h1 h2 h3)
  · exact permIn_all e2 e3 a m (fun x => ltZ x e1[m]! = true) (by omega) p2 (fun i q1 q2 => by rw [k2 i (by omega)]; exact h.lo i q1 q2) i h1 h2
  · rw [k1 i (by omega)]
    exact permIn_all e1 e2 (m + 1) b (fun x => ltZ x e1[m]! = false) (by omega) p1 (fun i q1 q2 => h.up i (by omega) q2) i (by omega) h2
/-- The second part lies above what it was parted by. -/
theorem blw_up (hs : b ≤ e.size) (h : Ptd a b e m e1) (hd : Dis a b e) : Blw (m + 1) b e1 := by
  refine .inr fun i h1 h2 => ?_
  rw [Nat.add_sub_cancel]
  have hD : Dis a b e1 := hd.perm h.perm hs
  have q1 := h.up i (by omega) h2
  have q2 := hD m i h.am (by omega) h2
  simp only [ltZ, decide_eq_true_eq, decide_eq_false_iff_not] at *; omega
end
/-- A row under way: from a to b it is to be sorted; then all of it is. -/
structure Pdq (g n a0 b0 : Nat) (d : Array Int) (w : World) (a b : Nat) (e : Array Int) (W : World) : Prop where
  size : e.size = n
  ab : a ≤ b
  bn : b ≤ n
  less : b - a ≤ b0 - a0
  row : Rw g e W
  fr : Fr (On g) w W
  dis : Dis a b e
  blw : Blw a b e
  then_ : ∀ e', PermIn a b e e' → SortedIn ltZ a b e' → PermIn a0 b0 d e' ∧ SortedIn ltZ a0 b0 e'
section
variable {g n a0 b0 a b : Nat} {d e e1 : Array Int} {w W W1 : World}
theorem Pdq.kp (h : Pdq g n a0 b0 d w a b e W) (k : Kp W W1) : Pdq g n a0 b0 d w a b e W1 := ⟨h.size, h.ab, h.bn, h.less, h.row.kp k, h.fr.trans (Fr.of_below k), h.dis, h.blw, h.then_⟩
theorem Pdq.turn (h : Pdq g n a0 b0 d w a b e W) (hp : PermIn a b e e1) (hr : Rw g e1 W1) (hf : Fr (On g) W W1) : Pdq g n a0 b0 d w a b e1 W1 :=
  ⟨hp.1.trans h.size, h.ab, h.bn, h.less, hr, h.fr.trans hf, h.dis.perm hp (by rw [h.size]; exact h.bn), h.blw.perm hp (by rw [h.size]; exact h.bn), fun e' p s => h.then_ e' (permIn_trans _ _ _ _ _ hp p) s⟩
theorem Pdq.end_ (h : Pdq g n a0 b0 d w a b e W) (hp : PermIn a b e e1) (hs : SortedIn ltZ a b e1) (hr : Rw g e1 W1) (hf : Fr (On g) W W1) : ∃ e', PermIn a0 b0 d e' ∧ SortedIn ltZ a0 b0 e' ∧ e'.size = n ∧ Rw g e' W1 ∧ Fr (On g) w W1 :=
  ⟨e1, (h.then_ e1 hp hs).1, (h.then_ e1 hp hs).2, hp.1.trans h.size, hr, h.fr.trans hf⟩
end
end Go.Proofs.Ytmceophmdkcgcaa
/- pdqsort and Sort of a few bytes of which no two are the same. -/
namespace Go.Proofs.Ytmceophmdkcgcaa
open Go.ChangeShapes Go.WideShapes Go.ChangeAt Go.RowKit Go.Sort
set_option linter.unusedVariables false
set_option linter.unusedSimpArgs false
/-- What is known of a call of pdqsort on at most m bytes. -/
def PdqC (g n cap m : Nat) : Prop := ∀ (a b lim : Nat) (d : Array Int) (w : World), b - a ≤ m → Rw g d w → d.size = n → a ≤ b → b ≤ n → n ≤ 26 → lim ≤ 64 → Dis a b d → Blw a b d →
  Calls Try.prog 37 #[.slice (some ⟨g, 0, none⟩) n cap, .int .i64 a, .int .i64 b, .int .i64 lim] w fun r w' => r = .returned (.tuple #[]) ∧ Hid (∃ e, PermIn a b d e ∧ SortedIn ltZ a b e ∧ e.size = n ∧ Rw g e w' ∧ Fr (On g) w w')
section
variable {g n cap : Nat}
set_option maxHeartbeats 64000000 in
set_option maxRecDepth 100000 in
theorem pdq_step {m : Nat} (ih : ∀ k, k < m → PdqC g n cap k) : PdqC g n cap m := by
  intro a0 b0 lim0 d w hm hrow hsz hab hbn hn hlim hdis hblw
  have HIH : Hid (∀ (a b lim : Nat) (d : Array Int) (w : World), b - a < m → Rw g d w → d.size = n → a ≤ b → b ≤ n → lim ≤ 64 → Dis a b d → Blw a b d → Calls Try.prog 37 #[.slice (some ⟨g, 0, none⟩) n cap, .int .i64 a, .int .i64 b, .int .i64 lim] w fun r w' => r = .returned (.tuple #[]) ∧ Hid (∃ e, PermIn a b d e ∧ SortedIn ltZ a b e ∧ e.size = n ∧ Rw g e w' ∧ Fr (On g) w w')) :=
    fun a b lim d w h1 h2 h3 h4 h5 h6 h7 h8 => ih (b - a) h1 a b lim d w (Nat.le_refl _) h2 h3 h4 h5 hn h6 h7 h8
  have H0 : Hid (Pdq g n a0 b0 d w a0 b0 d w) := ⟨hsz, hab, hbn, Nat.le_refl _, hrow, Fr.refl _ _, hdis, hblw, fun e' p s => ⟨p, s⟩⟩
  have HM : Hid (b0 - a0 ≤ m) := hm
  have hb0 : b0 ≤ 26 := by omega
  clear ih hm hrow hsz hbn hdis hblw
  go_enter Try.func37, Try.ntmps37
  go_wp2_with fail
  go_loopw [1, 2, 3, 8, 9] (fun v1 v2 v3 v8 v9 wr => ∃ (a b lim : Nat) (wb wp : Bool) (e : Array Int), v1 = .int .i64 a ∧ v2 = .int .i64 b ∧ v3 = .int .i64 lim ∧ v8 = .bool wb ∧ v9 = .bool wp ∧ a ≤ b ∧ b ≤ 26 ∧ lim ≤ 64 ∧ Hid (Pdq g n a0 b0 d w a b e wr)) (fun v1 v2 _ _ _ _ => (intOf v2).toNat - (intOf v1).toNat)
  case atStart => exact ⟨a0, b0, lim0, true, true, d, rfl, rfl, rfl, rfl, rfl, hab, hb0, hlim, H0.out⟩
  case round =>
    clear H0 hab hb0 hlim
    obtain ⟨a, b, lim, wb, wp, e, rfl, rfl, rfl, rfl, rfl, hab, hb, hlim, HP⟩ := hrel
    obtain ⟨l, hl⟩ : ∃ l, b = a + l := ⟨b - a, by omega⟩
    have u1 : (b : Int) - (a : Int) = (l : Int) := by omega
    have HL : Hid (b = a + l) := hl
    have z1 : l ≤ 26 := by omega
    clear hl
    by_cases q1 : l ≤ 12
    · have d1 : decide ((l : Int) ≤ 12) = true := decide_eq_true (by omega)
      have d2 : decide (l ≤ 12) = true := decide_eq_true (by omega)
      have HC : Hid (Calls Try.prog 39 #[.slice (some ⟨g, 0, none⟩) n cap, .int .i64 a, .int .i64 b] wr fun r w' => r = .returned (.tuple #[]) ∧ Hid (∃ e', PermIn a0 b0 d e' ∧ SortedIn ltZ a0 b0 e' ∧ e'.size = n ∧ Rw g e' w' ∧ Fr (On g) w w')) := by
        refine (ins_any HP.out.row HP.out.size hab HP.out.bn (by omega)).mono ?_
        rintro r w' ⟨hr, h1, h2⟩
        obtain ⟨p, s⟩ := insertionSort_holds swoZ e a b hab (by rw [HP.out.size]; exact HP.out.bn)
        exact ⟨hr, HP.out.end_ p s h1 h2⟩
      clear HP q1 HIH HM
      go_wp2_with fail
      refine Calls.mono HC.out ?_
      rintro r w2 ⟨rfl, H2⟩
      clear HC
      go_wp2_with fail
      first | go_end0 | refine bodyPost_ret (results_none rfl _ _ _) rfl ?_
      exact ⟨rfl, H2⟩
    · have d1 : decide ((l : Int) ≤ 12) = false := decide_eq_false (by omega)
      have d2 : decide (l ≤ 12) = false := decide_eq_false (by omega)
      have hl12 : 12 < l := by omega
      clear q1
      by_cases q2 : lim = 0
      · subst q2
        have HC : Hid (Calls Try.prog 40 #[.slice (some ⟨g, 0, none⟩) n cap, .int .i64 a, .int .i64 b] wr fun r w' => r = .returned (.tuple #[]) ∧ Hid (∃ e', PermIn a0 b0 d e' ∧ SortedIn ltZ a0 b0 e' ∧ e'.size = n ∧ Rw g e' w' ∧ Fr (On g) w w')) := by
          have := HL.out
          refine (heap_any HP.out.row HP.out.size (by omega) HP.out.bn (by omega)).mono ?_
          rintro r w' ⟨hr, h1, h2⟩
          obtain ⟨p, s⟩ := heapSort_holds swoZ e a b hab (by rw [HP.out.size]; exact HP.out.bn)
          exact ⟨hr, HP.out.end_ p s h1 h2⟩
        clear HP HIH HM
        go_wp2_with fail
        refine Calls.mono HC.out ?_
        rintro r w2 ⟨rfl, H2⟩
        clear HC
        go_wp2_with fail
        first | go_end0 | refine bodyPost_ret (results_none rfl _ _ _) rfl ?_
        exact ⟨rfl, H2⟩
      · have d3 : ((lim : Int) == 0) = false := by simp; omega
        have d4 : (lim == 0) = false := by simp; omega
        have hl1 : 1 ≤ lim := by omega
        clear q2
        go_upto_if 35 with fail
        go_cut [3] from 19 to 133 (fun v3 wx => ∃ lim' : Nat, v3 = .int .i64 lim' ∧ lim' ≤ 64 ∧ Hid (∃ e1, Pdq g n a0 b0 d w a b e1 wx))
        case first =>
          cases wb with
          | true =>
            go_wp2_with fail
            go_meet
            case rel => exact ⟨lim, rfl, hlim, e, HP.out⟩
          | false =>
            have HC : Hid (Calls Try.prog 41 #[.slice (some ⟨g, 0, none⟩) n cap, .int .i64 a, .int .i64 b] wr fun r w' => r = .returned (.tuple #[]) ∧ Hid (∃ e1, Pdq g n a0 b0 d w a b e1 w')) := by
              have := HL.out
              refine (brk_any HP.out.row HP.out.size HP.out.bn hn (by omega)).mono ?_
              rintro r w' ⟨hr, e1, h1, _, h3, h4⟩
              exact ⟨hr, e1, HP.out.turn h1 h3 h4⟩
            clear HP HIH HM
            go_wp2_with fail
            refine Calls.mono HC.out ?_
            rintro r w2 ⟨rfl, H2⟩
            clear HC
            obtain ⟨k, hk⟩ : ∃ k, lim = k + 1 := ⟨lim - 1, by omega⟩
            have e4 : (lim : Int) - 1 = (k : Int) := by omega
            have hk2 : k ≤ 64 := by omega
            clear hk
            go_wp2_with fail
            go_meet
            case rel => exact ⟨k, rfl, hk2, H2.out⟩
        case rest =>
          obtain ⟨lim', rfl, hlim', HE⟩ := hcut
          clear HP d3 d4 hl1 hlim
          obtain ⟨e1, h1⟩ := HE.out
          have HP : Hid (Pdq g n a0 b0 d w a b e1 wc) := h1
          clear HE h1
          have HV : Hid (Calls Try.prog 42 #[.slice (some ⟨g, 0, none⟩) n cap, .int .i64 a, .int .i64 b] wc fun r w' => ∃ (x : Nat) (y : Bool), r = .returned (.tuple #[.int .i64 x, .int .i64 (if y then 1 else 0)]) ∧ a ≤ x ∧ x < b ∧ Kp wc w') := by
            have := HL.out
            exact piv_any HP.out.row HP.out.size HP.out.bn (by omega) (by omega)
          go_wp2_with fail
          refine Calls.mono HV.out ?_
          rintro r w2 ⟨x, y, rfl, hx1, hx2, k2⟩
          replace HP : Hid (Pdq g n a0 b0 d w a b e1 w2) := HP.out.kp k2
          clear HV k2
          obtain ⟨H, hH⟩ : ∃ H : Int, (if y then 1 else 0) = H := ⟨_, rfl⟩
          have m1 : (H == 2) = false := by rw [← hH]; cases y <;> rfl
          have m2 : (H == 1) = y := by rw [← hH]; cases y <;> rfl
          rw [hH]
          clear hH
          obtain ⟨c, hc⟩ : ∃ c, (wb && wp && y) = c := ⟨_, rfl⟩
          have HCC : Hid ((wb && wp && y) = c) := hc
          clear hc
          go_upto_region 15 with fail
          go_cut [68] from 19 to 133 (fun v wx => v = .bool c ∧ w2 = wx)
          case first =>
            have hcc := HCC.out
            cases wb with
            | false =>
              obtain rfl : c = false := by rw [← hcc]; rfl
              clear hcc HCC HIH HM HP
              go_wp2_with fail
              go_meet
              case rel => exact ⟨rfl, rfl⟩
            | true =>
              cases wp with
              | false =>
                obtain rfl : c = false := by rw [← hcc]; rfl
                clear hcc HCC HIH HM HP
                go_wp2_with fail
                go_meet
                case rel => exact ⟨rfl, rfl⟩
              | true =>
                obtain rfl : c = y := by rw [← hcc]; rfl
                clear hcc HCC HIH HM HP
                go_wp2_with fail
                go_meet
                case rel => exact ⟨rfl, rfl⟩
          case rest =>
            obtain ⟨rfl, rfl⟩ := hcut
            clear HCC m1 m2
            go_upto_if 68 with fail
            go_cut [] from 19 to 133 (fun wx => Hid (Pdq g n a0 b0 d w a b e1 wx))
            case first =>
              cases c with
              | false =>
                go_wp2_with fail
                go_meet
                case rel => exact HP.out
              | true =>
                have HC : Hid (Calls Try.prog 44 #[.slice (some ⟨g, 0, none⟩) n cap, .int .i64 a, .int .i64 b] w2 fun r w' => ∃ y : Bool, r = .returned (.bool y) ∧ Hid ((y = true → ∃ e', PermIn a0 b0 d e' ∧ SortedIn ltZ a0 b0 e' ∧ e'.size = n ∧ Rw g e' w' ∧ Fr (On g) w w') ∧ Pdq g n a0 b0 d w a b e1 w')) := by
                  have := HL.out
                  refine (pti_any HP.out.row HP.out.size HP.out.bn (by omega) (by omega)).mono ?_
                  rintro r w' ⟨y, hr, HH⟩
                  exact ⟨y, hr, fun hy => HP.out.end_ (permIn_refl _ _ _) (HH.out.1 hy) (HP.out.row.kp HH.out.2) (Fr.of_below HH.out.2), HP.out.kp HH.out.2⟩
                clear HP HIH HM
                go_wp2_with fail
                refine Calls.mono HC.out ?_
                rintro r w3 ⟨y2, rfl, H3⟩
                clear HC
                cases y2 with
                | true =>
                  have H4 : Hid _ := H3.out.1 rfl
                  clear H3
                  go_wp2_with fail
                  first | go_end0 | refine bodyPost_ret (results_none rfl _ _ _) rfl ?_
                  exact ⟨rfl, H4.out⟩
                | false =>
                  go_wp2_with fail
                  go_meet
                  case rel => exact H3.out.2
            case rest =>
              replace HP := hcut
              clear hcut
              go_upto_region 17 with fail
              go_cut [87] from 19 to 133 (fun v wx => v = .bool false ∧ Hid (∃ m, wx = wc.drewN m))
              case first =>
                by_cases q : a = 0
                · subst q
                  clear HP HIH HM
                  go_quiet (fail)
                  go_wp2_with fail
                  go_meet
                  case rel => exact ⟨rfl, _, rfl⟩
                · have g1 : decide ((a : Int) > 0) = true := decide_eq_true (by omega)
                  have g2 : decide ((0 : Int) < (a : Int)) = true := decide_eq_true (by omega)
                  have g3 : decide (0 < a) = true := decide_eq_true (by omega)
                  obtain ⟨k, hk⟩ : ∃ k, a = k + 1 := ⟨a - 1, by omega⟩
                  have e4 : (a : Int) - 1 = (k : Int) := by omega
                  have hbn := HP.out.bn
                  have l1 : k < n := by omega
                  have l2 : x < n := by omega
                  have k1 := HP.out.row.cell (i := k) (by rw [HP.out.size]; exact l1)
                  have k2 := HP.out.row.cell (i := x) (by rw [HP.out.size]; exact l2)
                  have hlt : ltZ e1[k]! e1[x]! = true := by
                    rcases HP.out.blw with h | h
                    · exact absurd h q
                    · have := h x hx1 hx2
                      rw [hk, Nat.add_sub_cancel] at this
                      exact this
                  obtain ⟨s, hs⟩ : ∃ s, e1[k]! = s := ⟨_, rfl⟩
                  obtain ⟨t, ht⟩ : ∃ t, e1[x]! = t := ⟨_, rfl⟩
                  rw [hs] at k1 hlt
                  rw [ht] at k2 hlt
                  clear hs ht hk q HP HIH HM hbn
                  go_quiet ((go_at_call 45; have HC := less_any s t; rw [hlt] at HC; exact Calls.quiet_of_same (HC _)))
                  go_wp2_with fail
                  go_meet
                  case rel => exact ⟨rfl, _, rfl⟩
              case rest =>
                obtain ⟨rfl, HW⟩ := hcut
                replace HP : Hid (Pdq g n a0 b0 d w a b e1 wc) := by obtain ⟨m, hm⟩ := HW.out; rw [hm]; exact HP.out.kp (kp_drewN _ _)
                clear HW
                have HV : Hid (Calls Try.prog 47 #[.slice (some ⟨g, 0, none⟩) n cap, .int .i64 a, .int .i64 b, .int .i64 x] wc fun r w' => ∃ (m : Nat) (y : Bool) (e2 : Array Int), r = .returned (.tuple #[.int .i64 m, .bool y]) ∧ Hid (Ptd a b e1 m e2 ∧ e2.size = n ∧ Rw g e2 w' ∧ Fr (On g) wc w')) := part_any HP.out.row HP.out.size hx1 hx2 HP.out.bn (by omega)
                go_wp2_with fail
                refine Calls.mono HV.out ?_
                rintro r w4 ⟨M, y4, e2, rfl, H4⟩
                clear HV
                have hM1 : a ≤ M := H4.out.1.am
                have hM2 : M < b := H4.out.1.mb
                obtain ⟨L, hL⟩ : ∃ L, M = a + L := ⟨M - a, by omega⟩
                obtain ⟨R, hR⟩ : ∃ R, b = M + R := ⟨b - M, by omega⟩
                have v1 : (M : Int) - (a : Int) = (L : Int) := by omega
                have v2 : (b : Int) - (M : Int) = (R : Int) := by omega
                obtain ⟨th, hth⟩ : ∃ th, th = l / 8 := ⟨_, rfl⟩
                have v3 : (l : Int).tdiv 8 = (th : Int) := by rw [hth]; rfl
                have v4 : (l : Int) / 8 = (th : Int) := by omega
                have z2 : L ≤ 26 := by omega
                have z3 : R ≤ 26 := by omega
                have z4 : M ≤ 26 := by omega
                have z5 : th ≤ 26 := by omega
                have hbs : b ≤ e1.size := by rw [HP.out.size]; exact HP.out.bn
                have HLO : Hid (∀ (e3 : Array Int) (w' : World), PermIn a M e2 e3 → SortedIn ltZ a M e3 → Rw g e3 w' → Fr (On g) w4 w' → Pdq g n a0 b0 d w (M + 1) b e3 w') := fun e3 w' p1 s1 r1 f1 => by
                  have hless := HP.out.less
                  have k2 : ∀ i, M ≤ i → e3[i]! = e2[i]! := fun i hi => p1.2.1 i (.inr hi)
                  refine ⟨p1.1.trans H4.out.2.1, by omega, HP.out.bn, by omega, r1, (HP.out.fr.trans H4.out.2.2.2).trans f1, ?_, ?_, fun e' p s => ?_⟩
                  · exact ((HP.out.dis.perm H4.out.1.perm hbs).sub (by omega) (Nat.le_refl _)).same fun i h1 h2 => k2 i (by omega)
                  · rcases blw_up hbs H4.out.1 HP.out.dis with h | h
                    · omega
                    · refine .inr fun i h1 h2 => ?_
                      rw [Nat.add_sub_cancel, k2 M (Nat.le_refl _), k2 i (by omega)]
                      have := h i h1 h2
                      rw [Nat.add_sub_cancel] at this
                      exact this
                  · obtain ⟨q1, q2⟩ := glue_lo hbs H4.out.1 p1 s1 p s
                    exact HP.out.then_ e' q1 q2
                have HUP : Hid (∀ (e3 : Array Int) (w' : World), PermIn (M + 1) b e2 e3 → SortedIn ltZ (M + 1) b e3 → Rw g e3 w' → Fr (On g) w4 w' → Pdq g n a0 b0 d w a M e3 w') := fun e3 w' p1 s1 r1 f1 => by
                  have hless := HP.out.less
                  have hbn := HP.out.bn
                  have k2 : ∀ i, i < M + 1 → e3[i]! = e2[i]! := fun i hi => p1.2.1 i (.inl hi)
                  refine ⟨p1.1.trans H4.out.2.1, hM1, by omega, by omega, r1, (HP.out.fr.trans H4.out.2.2.2).trans f1, ?_, ?_, fun e' p s => ?_⟩
                  · exact ((HP.out.dis.perm H4.out.1.perm hbs).sub (Nat.le_refl _) (by omega)).same fun i h1 h2 => k2 i (by omega)
                  · rcases HP.out.blw.perm H4.out.1.perm hbs with h | h
                    · exact .inl h
                    · by_cases q0 : a = 0
                      · exact .inl q0
                      · refine .inr fun i h1 h2 => ?_
                        rw [k2 (a - 1) (by omega), k2 i (by omega)]
                        exact h i h1 (by omega)
                  · obtain ⟨q1, q2⟩ := glue_up hbs H4.out.1 p1 s1 p s
                    exact HP.out.then_ e' q1 q2
                have HC1 : Hid (∀ lm : Nat, lm ≤ 64 → Calls Try.prog 37 #[.slice (some ⟨g, 0, none⟩) n cap, .int .i64 a, .int .i64 M, .int .i64 lm] w4 fun r w' => r = .returned (.tuple #[]) ∧ Hid (∃ e3, Pdq g n a0 b0 d w (M + 1) b e3 w')) := fun lm hlm => by
                  have hless := HP.out.less
                  have hmm := HM.out
                  have hbn := HP.out.bn
                  refine (HIH.out a M lm e2 w4 (by omega) H4.out.2.2.1 H4.out.2.1 hM1 (by omega) hlm ((HP.out.dis.perm H4.out.1.perm hbs).sub (Nat.le_refl _) (by omega)) ((HP.out.blw.perm H4.out.1.perm hbs).sub (by omega))).mono ?_
                  rintro r w' ⟨hr, HH⟩
                  obtain ⟨e3, q1, q2, q3, q4, q5⟩ := HH.out
                  exact ⟨hr, e3, HLO.out e3 w' q1 q2 q4 q5⟩
                have HC2 : Hid (∀ lm : Nat, lm ≤ 64 → Calls Try.prog 37 #[.slice (some ⟨g, 0, none⟩) n cap, .int .i64 ((M : Int) + 1), .int .i64 b, .int .i64 lm] w4 fun r w' => r = .returned (.tuple #[]) ∧ Hid (∃ e3, Pdq g n a0 b0 d w a M e3 w')) := fun lm hlm => by
                  have hless := HP.out.less
                  have hmm := HM.out
                  have hbn := HP.out.bn
                  have := (HIH.out (M + 1) b lm e2 w4 (by omega) H4.out.2.2.1 H4.out.2.1 (by omega) hbn hlm ((HP.out.dis.perm H4.out.1.perm hbs).sub (by omega) (Nat.le_refl _)) (blw_up hbs H4.out.1 HP.out.dis))
                  rw [show (((M + 1 : Nat) : Int)) = (M : Int) + 1 by omega] at this
                  refine this.mono ?_
                  rintro r w' ⟨hr, HH⟩
                  obtain ⟨e3, q1, q2, q3, q4, q5⟩ := HH.out
                  exact ⟨hr, e3, HUP.out e3 w' q1 q2 q4 q5⟩
                have HMb : Hid (a ≤ M ∧ M < b ∧ b = a + l) := ⟨hM1, hM2, HL.out⟩
                clear HLO HUP HP HIH HM H4 hbs hL hR hth hM1 hM2 hx1 hx2 HL
                by_cases q : L < R
                · have g1 : decide ((L : Int) < (R : Int)) = true := decide_eq_true (by omega)
                  have g2 : decide (L < R) = true := decide_eq_true (by omega)
                  clear HC2 q
                  go_wp2_with fail
                  refine Calls.mono (HC1.out lim' hlim') ?_
                  rintro r w6 ⟨rfl, H6⟩
                  clear HC1
                  go_wp2_with fail
                  obtain ⟨e3, h3⟩ := H6.out
                  have := HMb.out
                  exact ⟨⟨M + 1, b, lim', _, _, e3, by go_num, rfl, rfl, rfl, rfl, by omega, hb, hlim', h3⟩, by simp only [intOf]; omega⟩
                · have g1 : decide ((L : Int) < (R : Int)) = false := decide_eq_false (by omega)
                  have g2 : decide (L < R) = false := decide_eq_false (by omega)
                  clear HC1 q
                  go_wp2_with fail
                  refine Calls.mono (HC2.out lim' hlim') ?_
                  rintro r w6 ⟨rfl, H6⟩
                  clear HC2
                  go_wp2_with fail
                  obtain ⟨e3, h3⟩ := H6.out
                  have := HMb.out
                  exact ⟨⟨a, M, lim', _, _, e3, rfl, rfl, rfl, rfl, rfl, by omega, by omega, hlim', h3⟩, by simp only [intOf]; omega⟩
theorem pdq_any (m : Nat) : PdqC g n cap m := by
  induction m using Nat.strongRecOn with
  | ind m ih => exact pdq_step ih
/-- All of it is sorted. -/
theorem sort_any {d : Array Int} {w : World} (h : Rw g d w) (hn : d.size = n) (h26 : n ≤ 26) (hd : Dis 0 n d) :
    Calls Try.prog 31 #[.slice (some ⟨g, 0, none⟩) n cap] w fun r w' => r = .returned (.tuple #[]) ∧ Hid (∃ e, PermIn 0 n d e ∧ SortedIn ltZ 0 n e ∧ e.size = n ∧ Rw g e w' ∧ Fr (On g) w w') := by
  have hb : blen n ≤ 64 := by unfold blen; repeat' split
                              all_goals omega
  have HC : Hid (∀ W, Calls Try.prog 38 #[.int .u64 n] W fun r w' => r = .returned (.int .i64 (blen n)) ∧ w' = W) := fun W => len_any (by omega)
  have HP : Hid (Calls Try.prog 37 #[.slice (some ⟨g, 0, none⟩) n cap, .int .i64 0, .int .i64 n, .int .i64 (blen n)] w fun r w' => r = .returned (.tuple #[]) ∧ Hid (∃ e, PermIn 0 n d e ∧ SortedIn ltZ 0 n e ∧ e.size = n ∧ Rw g e w' ∧ Fr (On g) w w')) :=
    pdq_any n 0 n (blen n) d w (by omega) h hn (Nat.zero_le _) (Nat.le_refl _) h26 hb hd (.inl rfl)
  clear h hn hd hb
  go_enter Try.func31, Try.ntmps31
  go_wp2_with fail
  refine Calls.mono (HC.out _) ?_
  rintro r _ ⟨rfl, rfl⟩
  go_wp2_with fail
  refine Calls.mono HP.out ?_
  rintro r w2 ⟨rfl, H2⟩
  clear HC HP
  go_wp2_with fail
  go_end0
  exact ⟨rfl, H2⟩
end
end Go.Proofs.Ytmceophmdkcgcaa
