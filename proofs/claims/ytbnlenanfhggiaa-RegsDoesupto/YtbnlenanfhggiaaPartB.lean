/- Texts that the proof of the law stands on: QR, QM, QN, QO, QS, QZ, QK. -/
import Derived.Test.YtbnlenanfhggiaaPartA
import Derived.Laws.Bits64
import Derived.Laws.Bits64b
import Derived.RangeFuncNested
import Derived.RangeFuncBound
import Derived.RangeFuncCalls
import Derived.RangeFuncLeaves
import Derived.RangeFuncWrites
import Derived.RangeFuncBox
import Derived.Sort.MapsRangeIn
import Derived.OwnWalkIn
import Derived.TacticsInMore
import Derived.RegionIn
import Derived.LoopNIn
import Derived.LoopIn
import Derived.Shelf.Abstract
/- Parted by one of its bytes. -/
namespace Go.Proofs.Ytbnlenanfhggiaa
open Go.ChangeShapes Go.WideShapes Go.ChangeAt Go.RowKit Go.Sort
set_option linter.unusedVariables false
set_option linter.unusedSimpArgs false
/-- While it is parted: what is ahead of i is less than the byte at a, what is behind j is not. -/
structure Ptn (a b : Nat) (d : Array Int) (i j : Nat) (e : Array Int) : Prop where
  perm : PermIn a b d e
  ia : a + 1 ≤ i
  jb : j < b
  ij : i ≤ j + 1
  lo : ∀ x, a < x → x < i → ltZ e[x]! e[a]! = true
  up : ∀ x, j < x → x < b → ltZ e[x]! e[a]! = false
/-- What is told of a row that is parted at m. -/
structure Ptd (a b : Nat) (d : Array Int) (m : Nat) (e : Array Int) : Prop where
  perm : PermIn a b d e
  am : a ≤ m
  mb : m < b
  lo : ∀ x, a ≤ x → x < m → ltZ e[x]! e[m]! = true
  up : ∀ x, m < x → x < b → ltZ e[x]! e[m]! = false
section
variable {g : Nat} {d : Array Int} {w w1 : World} {a b i j : Nat} {e : Array Int}
theorem Ptn.start {p : Nat} (h1 : a ≤ p) (h2 : p < b) (h3 : b ≤ d.size) : Ptn a b d (a + 1) (b - 1) (swp d a p) :=
  ⟨swp_permIn d a b a p (Nat.le_refl _) (by omega) h1 h2 h3, Nat.le_refl _, by omega, by omega, fun x h h' => by omega, fun x h h' => by omega⟩
theorem Ptn.more (h : Ptn a b d i j e) (hij : i ≤ j) (hl : ltZ e[i]! e[a]! = true) : Ptn a b d (i + 1) j e :=
  ⟨h.perm, by have := h.ia; omega, h.jb, by omega, fun x h1 h2 => by rcases Nat.lt_succ_iff_lt_or_eq.1 h2 with q | rfl; exact h.lo x h1 q; exact hl, h.up⟩
theorem Ptn.less (h : Ptn a b d i j e) (hij : i ≤ j) (hl : ltZ e[j]! e[a]! = false) : Ptn a b d i (j - 1) e :=
  ⟨h.perm, h.ia, by have := h.jb; omega, by have := h.ia; omega, h.lo, fun x h1 h2 => by
    have := h.ia
    rcases Nat.lt_or_ge j x with q | q
    · exact h.up x q h2
    · obtain rfl : x = j := by omega
      exact hl⟩
theorem Ptn.turn (h : Ptn a b d i j e) (hij : i < j) (hb : b ≤ e.size) (h1 : ltZ e[i]! e[a]! = false) (h2 : ltZ e[j]! e[a]! = true) : Ptn a b d (i + 1) (j - 1) (swp e i j) := by
  have ia := h.ia
  have jb := h.jb
  have ea : (swp e i j)[a]! = e[a]! := swp_other e i j a (by omega) (by omega)
  refine ⟨permIn_trans _ _ _ _ _ h.perm (swp_permIn e a b i j (by omega) (by omega) (by omega) (by omega) hb), by omega, by omega, by omega, fun x q1 q2 => ?_, fun x q1 q2 => ?_⟩
  · rw [ea]
    by_cases q : x = i
    · subst q; rw [swp_left e x j (by omega) (by omega)]; exact h2
    · rw [swp_other e i j x q (by omega)]; exact h.lo x q1 (by omega)
  · rw [ea]
    by_cases q : x = j
    · subst q; rw [swp_right e i x (by omega)]; exact h1
    · rw [swp_other e i j x (by omega) q]; exact h.up x (by omega) q2
theorem Ptn.done (h : Ptn a b d i j e) (hij : j < i) (hb : b ≤ e.size) : Ptd a b d j (swp e j a) := by
  have ia := h.ia
  have jb := h.jb
  have ij := h.ij
  have ej : (swp e j a)[j]! = e[a]! := by
    by_cases q : j = a
    · subst q; rw [swp_right e j j (by omega)]
    · exact swp_left e j a (by omega) q
  refine ⟨permIn_trans _ _ _ _ _ h.perm (swp_permIn e a b j a (by omega) (by omega) (by omega) (by omega) hb), by omega, jb, fun x q1 q2 => ?_, fun x q1 q2 => ?_⟩
  · rw [ej]
    by_cases q : x = a
    · subst q; rw [swp_right e j x (by omega)]
      by_cases q3 : j = x
      · omega
      · exact h.lo j (by omega) (by omega)
    · rw [swp_other e j a x (by omega) q]; exact h.lo x (by omega) (by omega)
  · rw [ej, swp_other e j a x (by omega) (by omega)]; exact h.up x q1 q2
/-- What lies in memory while it is parted. -/
def Ptm (g n a b : Nat) (d : Array Int) (w : World) (i j : Nat) (e : Array Int) (W : World) : Prop := Ptn a b d i j e ∧ e.size = n ∧ Rw g e W ∧ Fr (On g) w W
theorem Ptm.drew {n : Nat} {W : World} (h : Ptm g n a b d w i j e W) (m : Nat) : Ptm g n a b d w i j e (W.drewN m) := ⟨h.1, h.2.1, h.2.2.1.drew m, h.2.2.2.trans (Fr.drewN _ _ _)⟩
set_option maxHeartbeats 32000000 in
set_option maxRecDepth 100000 in
theorem part_any {n p cap : Nat} (h : Rw g d w) (hn : d.size = n) (hap : a ≤ p) (hpb : p < b) (hb : b ≤ n) (hn2 : n ≤ 1000) :
    Calls Try.prog 78 #[.slice (some ⟨g, 0, none⟩) n cap, .int .i64 a, .int .i64 b, .int .i64 p] w fun r w' => ∃ (m : Nat) (y : Bool) (e : Array Int), r = .returned (.tuple #[.int .i64 m, .bool y]) ∧ Hid (Ptd a b d m e ∧ e.size = n ∧ Rw g e w' ∧ Fr (On g) w w') := by
  obtain ⟨b1, hb1⟩ : ∃ b1, b = b1 + 1 := ⟨b - 1, by omega⟩
  have u1 : (b : Int) - 1 = (b1 : Int) := by omega
  have lb : b1 < n := by omega
  have la : a < n := by omega
  have lp : p < n := by omega
  have c1 := h.cell (i := a) (by omega)
  have c2 := h.cell (i := p) (by omega)
  have f1 := h.fz a
  have f2 := h.fz p
  obtain ⟨x, hx⟩ : ∃ x, d[a]! = x := ⟨_, rfl⟩
  obtain ⟨y, hy⟩ : ∃ y, d[p]! = y := ⟨_, rfl⟩
  rw [hx] at c1
  rw [hy] at c2
  have H0 : Hid (∀ m, Ptm g n a b d w (a + 1) b1 (swp d a p) (((w.setCell ⟨g, a, none⟩ (.int .u8 y)).setCell ⟨g, p, none⟩ (.int .u8 x)).drewN m)) := fun m => by
    obtain ⟨q1, q2⟩ := h.swp (i := a) (j := p) hy hx m
    exact ⟨by have := Ptn.start (d := d) hap hpb (by omega); rw [hb1, Nat.add_sub_cancel] at this; rw [hb1]; exact this, by rw [size_swp]; exact hn, q1, q2⟩
  have HB : Hid (b = b1 + 1) := hb1
  clear h hn hap hpb hx hy hb1
  go_enter Try.func78, Try.ntmps78
  go_upto_region 1 with fail
  go_cut [] from 12 (fun wx => Hid (∃ m, wx = ((w.setCell ⟨g, a, none⟩ (.int .u8 y)).setCell ⟨g, p, none⟩ (.int .u8 x)).drewN m))
  case first =>
    clear H0 HB
    by_cases q : a = p
    · subst q
      obtain rfl : x = y := by rw [c1] at c2; cases c2; rfl
      clear c2 f2 lp
      go_region
      go_wp2_with fail
      go_meet
      case rel => exact ⟨1, rfl⟩
    · go_region
      go_wp2_with fail
      go_meet
      case rel => exact ⟨1, rfl⟩
  case rest =>
    have HP : Hid (Ptm g n a b d w (a + 1) b1 (swp d a p) wc) := by obtain ⟨m, rfl⟩ := hcut.out; exact H0.out m
    clear H0 hcut c1 c2 f1 f2
    obtain ⟨e, he⟩ : ∃ e, swp d a p = e := ⟨_, rfl⟩
    rw [he] at HP
    clear he
    go_wp2_with fail
    go_loopw [10] (fun v10 wr => ∃ i : Nat, v10 = .int .i64 i ∧ i ≤ n ∧ Hid (Ptm g n a b d w i b1 e wr ∧ (a + 1) ≤ i)) (fun v10 _ => n - (intOf v10).toNat)
    case atStart => exact ⟨(a + 1), by go_num, by have := HP.out.1.ij; have := HP.out.1.jb; omega, HP.out, Nat.le_refl _⟩
    case round =>
      obtain ⟨iN, rfl, hi, HQ0⟩ := hrel
      have HQ : Hid (Ptm g n a b d w iN b1 e wr) := HQ0.out.1
      have HM : Hid ((a + 1) ≤ iN) := HQ0.out.2
      clear HQ0
      clear HP
      obtain ⟨u, hu⟩ : ∃ u, (decide (iN ≤ b1) && ltZ e[iN]! e[a]!) = u := ⟨_, rfl⟩
      have HU : Hid ((decide (iN ≤ b1) && ltZ e[iN]! e[a]!) = u) := hu
      clear hu
      go_upto_region 3 with fail
      go_cut [43] from 30 to 45 (fun v wx => v = .bool u ∧ Hid (∃ m, wx = wr.drewN m))
      case first =>
        by_cases q : iN ≤ b1
        · have d1 : decide ((iN : Int) ≤ (b1 : Int)) = true := decide_eq_true (by omega)
          have d2 : decide (iN ≤ b1) = true := decide_eq_true (by omega)
          have l1 : iN < n := by have := HQ.out.1.jb; omega
          have k1 := HQ.out.2.2.1.cell (i := iN) (by have := HQ.out.2.1; omega)
          have k2 := HQ.out.2.2.1.cell (i := a) (by have := HQ.out.2.1; omega)
          obtain ⟨x, hx⟩ : ∃ x, e[iN]! = x := ⟨_, rfl⟩
          obtain ⟨z, hz⟩ : ∃ z, e[a]! = z := ⟨_, rfl⟩
          rw [hx] at k1
          rw [hz] at k2
          have hv := HU.out
          rw [d2, hx, hz, Bool.true_and] at hv
          subst hv
          clear HU hx hz HQ q HM
          go_quiet ((go_at_call 76; exact Calls.quiet_of_same (less_any x z _)))
          go_wp2_with fail
          go_meet
          case rel => exact ⟨rfl, _, rfl⟩
        · have d1 : decide ((iN : Int) ≤ (b1 : Int)) = false := decide_eq_false (by omega)
          have d2 : decide (iN ≤ b1) = false := decide_eq_false (by omega)
          have hv := HU.out
          rw [d2, Bool.false_and] at hv
          subst hv
          clear HU HQ q HM
          go_quiet (fail)
          go_wp2_with fail
          go_meet
          case rel => exact ⟨rfl, _, rfl⟩
      case rest =>
        obtain ⟨rfl, HW⟩ := hcut
        replace HQ : Hid (Ptm g n a b d w iN b1 e wc) := by obtain ⟨m, rfl⟩ := HW.out; exact HQ.out.drew m
        clear HW
        cases u with
        | true =>
          have hh := HU.out
          simp only [Bool.and_eq_true, decide_eq_true_eq, Bool.not_eq_true'] at hh
          have HR : Hid (Ptm g n a b d w (iN + 1) b1 e wc ∧ (a + 1) ≤ iN + 1) := ⟨⟨HQ.out.1.more hh.1 hh.2, HQ.out.2⟩, Nat.le_succ_of_le HM.out⟩
          have hi2 : iN + 1 ≤ n := by have := HR.out.1.1.ij; have := HR.out.1.1.jb; omega
          clear HQ HU hh
          go_wp2_with fail
          exact ⟨⟨iN + 1, by go_num, hi2, HR.out⟩, by simp only [intOf]; omega⟩
        | false =>
          have HX : Hid (b1 < iN ∨ ltZ e[iN]! e[a]! = false) := by
            have hh := HU.out
            simp only [Bool.and_eq_false_iff, decide_eq_false_iff_not] at hh
            rcases hh with q | q; exact .inl (by omega); exact .inr q
          have HP : Hid (Ptm g n a b d w iN b1 e wc) := HQ.out
          clear HQ HU
          go_wp2_with fail
          go_loopw [11] (fun v11 wr => ∃ j : Nat, v11 = .int .i64 j ∧ j < n ∧ Hid (Ptm g n a b d w iN j e wr ∧ (j < iN ∨ ltZ e[iN]! e[a]! = false) ∧ j ≤ b1)) (fun v11 _ => (intOf v11).toNat)
          case atStart => exact ⟨b1, by go_num, by have := HP.out.1.jb; omega, HP.out, HX.out, Nat.le_refl _⟩
          case round =>
            obtain ⟨jN, rfl, hj, HQ0⟩ := hrel
            have HQ : Hid (Ptm g n a b d w iN jN e wr) := HQ0.out.1
            have HX0 : Hid (jN < iN ∨ ltZ e[iN]! e[a]! = false) := HQ0.out.2.1
            have HM2 : Hid (jN ≤ b1) := HQ0.out.2.2
            clear HQ0 HX
            clear HP
            obtain ⟨u, hu⟩ : ∃ u, (decide (iN ≤ jN) && !ltZ e[jN]! e[a]!) = u := ⟨_, rfl⟩
            have HU : Hid ((decide (iN ≤ jN) && !ltZ e[jN]! e[a]!) = u) := hu
            clear hu
            go_upto_region 5 with fail
            go_cut [60] from 46 to 62 (fun v wx => v = .bool u ∧ Hid (∃ m, wx = wr.drewN m))
            case first =>
              by_cases q : iN ≤ jN
              · have d1 : decide ((iN : Int) ≤ (jN : Int)) = true := decide_eq_true (by omega)
                have d2 : decide (iN ≤ jN) = true := decide_eq_true (by omega)
                have l1 : jN < n := by have := HQ.out.1.jb; omega
                have k1 := HQ.out.2.2.1.cell (i := jN) (by have := HQ.out.2.1; omega)
                have k2 := HQ.out.2.2.1.cell (i := a) (by have := HQ.out.2.1; omega)
                obtain ⟨x, hx⟩ : ∃ x, e[jN]! = x := ⟨_, rfl⟩
                obtain ⟨z, hz⟩ : ∃ z, e[a]! = z := ⟨_, rfl⟩
                rw [hx] at k1
                rw [hz] at k2
                have hv := HU.out
                rw [d2, hx, hz, Bool.true_and] at hv
                subst hv
                clear HU hx hz HQ q HX0 HM2
                go_quiet ((go_at_call 76; exact Calls.quiet_of_same (less_any x z _)))
                go_wp2_with fail
                go_meet
                case rel => exact ⟨rfl, _, rfl⟩
              · have d1 : decide ((iN : Int) ≤ (jN : Int)) = false := decide_eq_false (by omega)
                have d2 : decide (iN ≤ jN) = false := decide_eq_false (by omega)
                have hv := HU.out
                rw [d2, Bool.false_and] at hv
                subst hv
                clear HU HQ q HX0 HM2
                go_quiet (fail)
                go_wp2_with fail
                go_meet
                case rel => exact ⟨rfl, _, rfl⟩
            case rest =>
              obtain ⟨rfl, HW⟩ := hcut
              replace HQ : Hid (Ptm g n a b d w iN jN e wc) := by obtain ⟨m, rfl⟩ := HW.out; exact HQ.out.drew m
              clear HW
              cases u with
              | true =>
                have hh := HU.out
                simp only [Bool.and_eq_true, decide_eq_true_eq, Bool.not_eq_true'] at hh
                obtain ⟨k, hk⟩ : ∃ k, jN = k + 1 := ⟨jN - 1, by have := HQ.out.1.ia; omega⟩
                have e4 : (jN : Int) - 1 = (k : Int) := by omega
                have HR : Hid (Ptm g n a b d w iN k e wc ∧ (k < iN ∨ ltZ e[iN]! e[a]! = false) ∧ k ≤ b1 ∧ jN = k + 1) := ⟨⟨by have := HQ.out.1.less hh.1 hh.2; rw [hk, Nat.add_sub_cancel] at this; exact this, HQ.out.2⟩, by rcases HX0.out with q | q; exact .inl (by omega); exact .inr q, by have := HM2.out; omega, hk⟩
                clear HQ HU hh hk HX0
                go_wp2_with fail
                have hjk := HR.out.2.2.2
                exact ⟨⟨k, rfl, by omega, HR.out.1, HR.out.2.1, HR.out.2.2.1⟩, by simp only [intOf]; omega⟩
              | false =>
                have HX : Hid (jN < iN ∨ (ltZ e[jN]! e[a]! = true ∧ ltZ e[iN]! e[a]! = false)) := by
                  have hh := HU.out
                  simp only [Bool.and_eq_false_iff, decide_eq_false_iff_not, Bool.not_eq_false'] at hh
                  rcases hh with q | q
                  · exact .inl (by omega)
                  · rcases HX0.out with p | p
                    · exact .inl p
                    · exact .inr ⟨q, p⟩
                clear HX0
                have HP : Hid (Ptm g n a b d w iN jN e wc) := HQ.out
                clear HQ HU
                obtain ⟨i, hiN⟩ : ∃ i, i = iN := ⟨_, rfl⟩
                obtain ⟨j, hjN⟩ : ∃ j, j = jN := ⟨_, rfl⟩
                subst hiN hjN
                by_cases hgt : j < i
                · have HGT : Hid (j < i) := hgt
                  have d1 : decide ((i : Int) > (j : Int)) = true := decide_eq_true (by omega)
                  have d2 : decide ((j : Int) < (i : Int)) = true := decide_eq_true (by omega)
                  have d3 : decide (j < i) = true := decide_eq_true (by omega)
                  clear hgt
                  go_wp2_with fail
                  have l1_ : j < n := by have := HP.out.1.jb; omega
                  have ja : a ≤ j := by have := HP.out.1.ij; have := HP.out.1.ia; omega
                  have k1 := HP.out.2.2.1.cell (i := j) (by have := HP.out.2.1; omega)
                  have k2 := HP.out.2.2.1.cell (i := a) (by have := HP.out.2.1; omega)
                  have g1 := HP.out.2.2.1.fz j
                  have g2 := HP.out.2.2.1.fz a
                  obtain ⟨s, hs⟩ : ∃ s, e[j]! = s := ⟨_, rfl⟩
                  obtain ⟨t, ht⟩ : ∃ t, e[a]! = t := ⟨_, rfl⟩
                  rw [hs] at k1
                  rw [ht] at k2
                  have HF : Hid (∀ m, Ptd a b d j (swp e j a) ∧ (swp e j a).size = n ∧ Rw g (swp e j a) (((wc.setCell ⟨g, j, none⟩ (.int .u8 t)).setCell ⟨g, a, none⟩ (.int .u8 s)).drewN m) ∧ Fr (On g) w (((wc.setCell ⟨g, j, none⟩ (.int .u8 t)).setCell ⟨g, a, none⟩ (.int .u8 s)).drewN m)) := fun m => by
                    obtain ⟨q1, q2⟩ := HP.out.2.2.1.swp (i := j) (j := a) ht hs m
                    exact ⟨HP.out.1.done HGT.out (by have := HP.out.2.1; omega), by rw [size_swp]; exact HP.out.2.1, q1, HP.out.2.2.2.trans q2⟩
                  clear HP HX hs ht
                  by_cases q : j = a
                  · subst q
                    obtain rfl : s = t := by rw [k1] at k2; cases k2; rfl
                    clear k2 g2
                    go_region
                    go_wp2_with fail
                    go_ret2
                    exact ⟨_, _, _, rfl, HF.out 1⟩
                  · go_region
                    go_wp2_with fail
                    go_ret2
                    exact ⟨_, _, _, rfl, HF.out 1⟩
                · have HGT : Hid (¬ j < i) := hgt
                  have d1 : decide ((i : Int) > (j : Int)) = false := decide_eq_false (by omega)
                  have d2 : decide ((j : Int) < (i : Int)) = false := decide_eq_false (by omega)
                  have d3 : decide (j < i) = false := decide_eq_false (by omega)
                  clear hgt
                  go_wp2_with fail
                  have hlt : i < j ∧ ltZ e[i]! e[a]! = false ∧ ltZ e[j]! e[a]! = true := by
                    rcases HX.out with q | ⟨q1, q2⟩
                    · exact absurd q HGT.out
                    · refine ⟨?_, q2, q1⟩
                      rcases Nat.lt_or_ge i j with r | r
                      · exact r
                      · have := HGT.out
                        obtain rfl : i = j := by omega
                        rw [q1] at q2; cases q2
                  obtain ⟨k, hk⟩ : ∃ k, j = k + 1 := ⟨j - 1, by omega⟩
                  have e4 : (j : Int) - 1 = (k : Int) := by omega
                  have l1_ : i < n := by have := HP.out.1.jb; omega
                  have l2_ : j < n := by have := HP.out.1.jb; omega
                  have k1 := HP.out.2.2.1.cell (i := i) (by have := HP.out.2.1; omega)
                  have k2 := HP.out.2.2.1.cell (i := j) (by have := HP.out.2.1; omega)
                  have g1 := HP.out.2.2.1.fz i
                  have g2 := HP.out.2.2.1.fz j
                  obtain ⟨s, hs⟩ : ∃ s, e[i]! = s := ⟨_, rfl⟩
                  obtain ⟨t, ht⟩ : ∃ t, e[j]! = t := ⟨_, rfl⟩
                  rw [hs] at k1
                  rw [ht] at k2
                  have HF : Hid (∀ m, Ptm g n a b d w (i + 1) k (swp e i j) (((wc.setCell ⟨g, i, none⟩ (.int .u8 t)).setCell ⟨g, j, none⟩ (.int .u8 s)).drewN m)) := fun m => by
                    obtain ⟨q1, q2⟩ := HP.out.2.2.1.swp (i := i) (j := j) ht hs m
                    refine ⟨?_, by rw [size_swp]; exact HP.out.2.1, q1, HP.out.2.2.2.trans q2⟩
                    have := HP.out.1.turn hlt.1 (by have := HP.out.2.1; omega) hlt.2.1 hlt.2.2
                    rw [hk, Nat.add_sub_cancel] at this
                    rw [hk]; exact this
                  have hne : i ≠ j := by omega
                  have HK : Hid (j = k + 1) := hk
                  clear HP HX HGT hs ht hlt hk
                  go_region
                  go_wp2_with fail
                  go_loopw [10, 11] (fun v10 v11 wr => ∃ (i j : Nat) (e : Array Int), v10 = .int .i64 i ∧ v11 = .int .i64 j ∧ i ≤ n ∧ j < n ∧ Hid (Ptm g n a b d w i j e wr)) (fun v10 v11 _ => n + (intOf v11).toNat - (intOf v10).toNat)
                  case atStart => exact ⟨i + 1, k, swp e i j, by go_num, rfl, by omega, by have := HK.out; omega, HF.out 1⟩
                  case round =>
                    clear HF HK k1 k2 g1 g2 e4 HM HM2 d1 d2 d3 l1_ l2_ hne
                    obtain ⟨i1, j1, e, rfl, rfl, hi1, hj1, HP⟩ := hrel
                    go_wp2_with fail
                    go_loopw [10] (fun v10 wr => ∃ i : Nat, v10 = .int .i64 i ∧ i ≤ n ∧ Hid (Ptm g n a b d w i j1 e wr ∧ i1 ≤ i)) (fun v10 _ => n - (intOf v10).toNat)
                    case atStart => exact ⟨i1, by go_num, by have := HP.out.1.ij; have := HP.out.1.jb; omega, HP.out, Nat.le_refl _⟩
                    case round =>
                      obtain ⟨iN, rfl, hi, HQ0⟩ := hrel
                      have HQ : Hid (Ptm g n a b d w iN j1 e wr) := HQ0.out.1
                      have HM : Hid (i1 ≤ iN) := HQ0.out.2
                      clear HQ0
                      clear HP
                      obtain ⟨u, hu⟩ : ∃ u, (decide (iN ≤ j1) && ltZ e[iN]! e[a]!) = u := ⟨_, rfl⟩
                      have HU : Hid ((decide (iN ≤ j1) && ltZ e[iN]! e[a]!) = u) := hu
                      clear hu
                      go_upto_region 13 with fail
                      go_cut [112] from 99 to 114 (fun v wx => v = .bool u ∧ Hid (∃ m, wx = wr.drewN m))
                      case first =>
                        by_cases q : iN ≤ j1
                        · have d1 : decide ((iN : Int) ≤ (j1 : Int)) = true := decide_eq_true (by omega)
                          have d2 : decide (iN ≤ j1) = true := decide_eq_true (by omega)
                          have l1 : iN < n := by have := HQ.out.1.jb; omega
                          have k1 := HQ.out.2.2.1.cell (i := iN) (by have := HQ.out.2.1; omega)
                          have k2 := HQ.out.2.2.1.cell (i := a) (by have := HQ.out.2.1; omega)
                          obtain ⟨x, hx⟩ : ∃ x, e[iN]! = x := ⟨_, rfl⟩
                          obtain ⟨z, hz⟩ : ∃ z, e[a]! = z := ⟨_, rfl⟩
                          rw [hx] at k1
                          rw [hz] at k2
                          have hv := HU.out
                          rw [d2, hx, hz, Bool.true_and] at hv
                          subst hv
                          clear HU hx hz HQ q HM
                          go_quiet ((go_at_call 76; exact Calls.quiet_of_same (less_any x z _)))
                          go_wp2_with fail
                          go_meet
                          case rel => exact ⟨rfl, _, rfl⟩
                        · have d1 : decide ((iN : Int) ≤ (j1 : Int)) = false := decide_eq_false (by omega)
                          have d2 : decide (iN ≤ j1) = false := decide_eq_false (by omega)
                          have hv := HU.out
                          rw [d2, Bool.false_and] at hv
                          subst hv
                          clear HU HQ q HM
                          go_quiet (fail)
                          go_wp2_with fail
                          go_meet
                          case rel => exact ⟨rfl, _, rfl⟩
                      case rest =>
                        obtain ⟨rfl, HW⟩ := hcut
                        replace HQ : Hid (Ptm g n a b d w iN j1 e wc) := by obtain ⟨m, rfl⟩ := HW.out; exact HQ.out.drew m
                        clear HW
                        cases u with
                        | true =>
                          have hh := HU.out
                          simp only [Bool.and_eq_true, decide_eq_true_eq, Bool.not_eq_true'] at hh
                          have HR : Hid (Ptm g n a b d w (iN + 1) j1 e wc ∧ i1 ≤ iN + 1) := ⟨⟨HQ.out.1.more hh.1 hh.2, HQ.out.2⟩, Nat.le_succ_of_le HM.out⟩
                          have hi2 : iN + 1 ≤ n := by have := HR.out.1.1.ij; have := HR.out.1.1.jb; omega
                          clear HQ HU hh
                          go_wp2_with fail
                          exact ⟨⟨iN + 1, by go_num, hi2, HR.out⟩, by simp only [intOf]; omega⟩
                        | false =>
                          have HX : Hid (j1 < iN ∨ ltZ e[iN]! e[a]! = false) := by
                            have hh := HU.out
                            simp only [Bool.and_eq_false_iff, decide_eq_false_iff_not] at hh
                            rcases hh with q | q; exact .inl (by omega); exact .inr q
                          have HP : Hid (Ptm g n a b d w iN j1 e wc) := HQ.out
                          clear HQ HU
                          go_wp2_with fail
                          go_loopw [11] (fun v11 wr => ∃ j : Nat, v11 = .int .i64 j ∧ j < n ∧ Hid (Ptm g n a b d w iN j e wr ∧ (j < iN ∨ ltZ e[iN]! e[a]! = false) ∧ j ≤ j1)) (fun v11 _ => (intOf v11).toNat)
                          case atStart => exact ⟨j1, by go_num, by have := HP.out.1.jb; omega, HP.out, HX.out, Nat.le_refl _⟩
                          case round =>
                            obtain ⟨jN, rfl, hj, HQ0⟩ := hrel
                            have HQ : Hid (Ptm g n a b d w iN jN e wr) := HQ0.out.1
                            have HX0 : Hid (jN < iN ∨ ltZ e[iN]! e[a]! = false) := HQ0.out.2.1
                            have HM2 : Hid (jN ≤ j1) := HQ0.out.2.2
                            clear HQ0 HX
                            clear HP
                            obtain ⟨u, hu⟩ : ∃ u, (decide (iN ≤ jN) && !ltZ e[jN]! e[a]!) = u := ⟨_, rfl⟩
                            have HU : Hid ((decide (iN ≤ jN) && !ltZ e[jN]! e[a]!) = u) := hu
                            clear hu
                            go_upto_region 15 with fail
                            go_cut [129] from 115 to 131 (fun v wx => v = .bool u ∧ Hid (∃ m, wx = wr.drewN m))
                            case first =>
                              by_cases q : iN ≤ jN
                              · have d1 : decide ((iN : Int) ≤ (jN : Int)) = true := decide_eq_true (by omega)
                                have d2 : decide (iN ≤ jN) = true := decide_eq_true (by omega)
                                have l1 : jN < n := by have := HQ.out.1.jb; omega
                                have k1 := HQ.out.2.2.1.cell (i := jN) (by have := HQ.out.2.1; omega)
                                have k2 := HQ.out.2.2.1.cell (i := a) (by have := HQ.out.2.1; omega)
                                obtain ⟨x, hx⟩ : ∃ x, e[jN]! = x := ⟨_, rfl⟩
                                obtain ⟨z, hz⟩ : ∃ z, e[a]! = z := ⟨_, rfl⟩
                                rw [hx] at k1
                                rw [hz] at k2
                                have hv := HU.out
                                rw [d2, hx, hz, Bool.true_and] at hv
                                subst hv
                                clear HU hx hz HQ q HX0 HM2
                                go_quiet ((go_at_call 76; exact Calls.quiet_of_same (less_any x z _)))
                                go_wp2_with fail
                                go_meet
                                case rel => exact ⟨rfl, _, rfl⟩
                              · have d1 : decide ((iN : Int) ≤ (jN : Int)) = false := decide_eq_false (by omega)
                                have d2 : decide (iN ≤ jN) = false := decide_eq_false (by omega)
                                have hv := HU.out
                                rw [d2, Bool.false_and] at hv
                                subst hv
                                clear HU HQ q HX0 HM2
                                go_quiet (fail)
                                go_wp2_with fail
                                go_meet
                                case rel => exact ⟨rfl, _, rfl⟩
                            case rest =>
                              obtain ⟨rfl, HW⟩ := hcut
                              replace HQ : Hid (Ptm g n a b d w iN jN e wc) := by obtain ⟨m, rfl⟩ := HW.out; exact HQ.out.drew m
                              clear HW
                              cases u with
                              | true =>
                                have hh := HU.out
                                simp only [Bool.and_eq_true, decide_eq_true_eq, Bool.not_eq_true'] at hh
                                obtain ⟨k, hk⟩ : ∃ k, jN = k + 1 := ⟨jN - 1, by have := HQ.out.1.ia; omega⟩
                                have e4 : (jN : Int) - 1 = (k : Int) := by omega
                                have HR : Hid (Ptm g n a b d w iN k e wc ∧ (k < iN ∨ ltZ e[iN]! e[a]! = false) ∧ k ≤ j1 ∧ jN = k + 1) := ⟨⟨by have := HQ.out.1.less hh.1 hh.2; rw [hk, Nat.add_sub_cancel] at this; exact this, HQ.out.2⟩, by rcases HX0.out with q | q; exact .inl (by omega); exact .inr q, by have := HM2.out; omega, hk⟩
                                clear HQ HU hh hk HX0
                                go_wp2_with fail
                                have hjk := HR.out.2.2.2
                                exact ⟨⟨k, rfl, by omega, HR.out.1, HR.out.2.1, HR.out.2.2.1⟩, by simp only [intOf]; omega⟩
                              | false =>
                                have HX : Hid (jN < iN ∨ (ltZ e[jN]! e[a]! = true ∧ ltZ e[iN]! e[a]! = false)) := by
                                  have hh := HU.out
                                  simp only [Bool.and_eq_false_iff, decide_eq_false_iff_not, Bool.not_eq_false'] at hh
                                  rcases hh with q | q
                                  · exact .inl (by omega)
                                  · rcases HX0.out with p | p
                                    · exact .inl p
                                    · exact .inr ⟨q, p⟩
                                clear HX0
                                have HP : Hid (Ptm g n a b d w iN jN e wc) := HQ.out
                                clear HQ HU
                                obtain ⟨i, hiN⟩ : ∃ i, i = iN := ⟨_, rfl⟩
                                obtain ⟨j, hjN⟩ : ∃ j, j = jN := ⟨_, rfl⟩
                                subst hiN hjN
                                by_cases hgt : j < i
                                · have HGT : Hid (j < i) := hgt
                                  have d1 : decide ((i : Int) > (j : Int)) = true := decide_eq_true (by omega)
                                  have d2 : decide ((j : Int) < (i : Int)) = true := decide_eq_true (by omega)
                                  have d3 : decide (j < i) = true := decide_eq_true (by omega)
                                  clear hgt
                                  go_wp2_with fail
                                  have l1_ : j < n := by have := HP.out.1.jb; omega
                                  have ja : a ≤ j := by have := HP.out.1.ij; have := HP.out.1.ia; omega
                                  have k1 := HP.out.2.2.1.cell (i := j) (by have := HP.out.2.1; omega)
                                  have k2 := HP.out.2.2.1.cell (i := a) (by have := HP.out.2.1; omega)
                                  have g1 := HP.out.2.2.1.fz j
                                  have g2 := HP.out.2.2.1.fz a
                                  obtain ⟨s, hs⟩ : ∃ s, e[j]! = s := ⟨_, rfl⟩
                                  obtain ⟨t, ht⟩ : ∃ t, e[a]! = t := ⟨_, rfl⟩
                                  rw [hs] at k1
                                  rw [ht] at k2
                                  have HF : Hid (∀ m, Ptd a b d j (swp e j a) ∧ (swp e j a).size = n ∧ Rw g (swp e j a) (((wc.setCell ⟨g, j, none⟩ (.int .u8 t)).setCell ⟨g, a, none⟩ (.int .u8 s)).drewN m) ∧ Fr (On g) w (((wc.setCell ⟨g, j, none⟩ (.int .u8 t)).setCell ⟨g, a, none⟩ (.int .u8 s)).drewN m)) := fun m => by
                                    obtain ⟨q1, q2⟩ := HP.out.2.2.1.swp (i := j) (j := a) ht hs m
                                    exact ⟨HP.out.1.done HGT.out (by have := HP.out.2.1; omega), by rw [size_swp]; exact HP.out.2.1, q1, HP.out.2.2.2.trans q2⟩
                                  clear HP HX hs ht
                                  by_cases q : j = a
                                  · subst q
                                    obtain rfl : s = t := by rw [k1] at k2; cases k2; rfl
                                    clear k2 g2
                                    go_region
                                    go_wp2_with fail
                                    go_ret2
                                    exact ⟨_, _, _, rfl, HF.out 1⟩
                                  · go_region
                                    go_wp2_with fail
                                    go_ret2
                                    exact ⟨_, _, _, rfl, HF.out 1⟩
                                · have HGT : Hid (¬ j < i) := hgt
                                  have d1 : decide ((i : Int) > (j : Int)) = false := decide_eq_false (by omega)
                                  have d2 : decide ((j : Int) < (i : Int)) = false := decide_eq_false (by omega)
                                  have d3 : decide (j < i) = false := decide_eq_false (by omega)
                                  clear hgt
                                  go_wp2_with fail
                                  have hlt : i < j ∧ ltZ e[i]! e[a]! = false ∧ ltZ e[j]! e[a]! = true := by
                                    rcases HX.out with q | ⟨q1, q2⟩
                                    · exact absurd q HGT.out
                                    · refine ⟨?_, q2, q1⟩
                                      rcases Nat.lt_or_ge i j with r | r
                                      · exact r
                                      · have := HGT.out
                                        obtain rfl : i = j := by omega
                                        rw [q1] at q2; cases q2
                                  obtain ⟨k, hk⟩ : ∃ k, j = k + 1 := ⟨j - 1, by omega⟩
                                  have e4 : (j : Int) - 1 = (k : Int) := by omega
                                  have l1_ : i < n := by have := HP.out.1.jb; omega
                                  have l2_ : j < n := by have := HP.out.1.jb; omega
                                  have k1 := HP.out.2.2.1.cell (i := i) (by have := HP.out.2.1; omega)
                                  have k2 := HP.out.2.2.1.cell (i := j) (by have := HP.out.2.1; omega)
                                  have g1 := HP.out.2.2.1.fz i
                                  have g2 := HP.out.2.2.1.fz j
                                  obtain ⟨s, hs⟩ : ∃ s, e[i]! = s := ⟨_, rfl⟩
                                  obtain ⟨t, ht⟩ : ∃ t, e[j]! = t := ⟨_, rfl⟩
                                  rw [hs] at k1
                                  rw [ht] at k2
                                  have HF : Hid (∀ m, Ptm g n a b d w (i + 1) k (swp e i j) (((wc.setCell ⟨g, i, none⟩ (.int .u8 t)).setCell ⟨g, j, none⟩ (.int .u8 s)).drewN m)) := fun m => by
                                    obtain ⟨q1, q2⟩ := HP.out.2.2.1.swp (i := i) (j := j) ht hs m
                                    refine ⟨?_, by rw [size_swp]; exact HP.out.2.1, q1, HP.out.2.2.2.trans q2⟩
                                    have := HP.out.1.turn hlt.1 (by have := HP.out.2.1; omega) hlt.2.1 hlt.2.2
                                    rw [hk, Nat.add_sub_cancel] at this
                                    rw [hk]; exact this
                                  have hne : i ≠ j := by omega
                                  have HK : Hid (j = k + 1) := hk
                                  clear HP HX HGT hs ht hlt hk
                                  go_region
                                  go_wp2_with fail
                                  have q1 := HM.out
                                  have q2 := HM2.out
                                  have q3 := HK.out
                                  exact ⟨⟨i + 1, k, swp e i j, by go_num, rfl, by omega, by omega, HF.out 1⟩, by simp only [intOf]; omega⟩
end
end Go.Proofs.Ytbnlenanfhggiaa
/- What is drawn: a pivot, numbers at random, how long a number is. -/
namespace Go.Proofs.Ytbnlenanfhggiaa
open Go.ChangeShapes Go.WideShapes Go.ChangeAt Go.RowKit Go.Sort
set_option linter.unusedVariables false
set_option linter.unusedSimpArgs false
section
variable {g : Nat} {d : Array Int} {w w1 : World} {n cap : Nat}
set_option maxHeartbeats 4000000 in
set_option maxRecDepth 100000 in
theorem ord2_any {a b s q : Nat} (h : Rw g d w) (hn : d.size = n) (ha : a < n) (hb : b < n) (hq : Lc 3 q [.int .i64 s] w) (hs : s ≤ 100) :
    Calls Try.prog 87 #[.slice (some ⟨g, 0, none⟩) n cap, .int .i64 a, .int .i64 b, .pointer (some ⟨q, 0, none⟩)] w fun r w' => ∃ (x y s' : Nat), r = .returned (.tuple #[.int .i64 x, .int .i64 y]) ∧ (x = a ∧ y = b ∨ x = b ∧ y = a) ∧ s' ≤ s + 1 ∧ Hid (Lc 3 q [.int .i64 s'] w' ∧ Fr (On q) w w') := by
  have c1 := h.cell (i := a) (by omega)
  have c2 := h.cell (i := b) (by omega)
  obtain ⟨u, hu⟩ : ∃ u, d[a]! = u := ⟨_, rfl⟩
  obtain ⟨v, hv⟩ : ∃ v, d[b]! = v := ⟨_, rfl⟩
  rw [hu] at c1
  rw [hv] at c2
  have k1 := hq.at (j := 0) rfl
  have k2 := hq.fz 0
  have HQ : Hid (Lc 3 q [.int .i64 s] w) := hq
  clear hu hv h hn hq
  cases hl : ltZ v u with
  | false =>
    go_enter Try.func87, Try.ntmps87
    go_wp2_with fail
    go_quiet ((go_at_call 76; have HC := less_any v u; rw [hl] at HC; exact Calls.quiet_of_same (HC _)))
    go_wp2_with fail
    go_ret2
    exact ⟨a, b, s, rfl, .inl ⟨rfl, rfl⟩, by omega, HQ.out.kp (kp_drewN _ _), Fr.drewN _ _ _⟩
  | true =>
    have HE : Hid (∀ m, Lc 3 q [.int .i64 ((s + 1 : Nat) : Int)] ((w.drewN m).setCell ⟨q, 0, none⟩ (.int .i64 ((s : Int) + 1))) ∧ Fr (On q) w ((w.drewN m).setCell ⟨q, 0, none⟩ (.int .i64 ((s : Int) + 1)))) := fun m => by
      refine ⟨?_, (Fr.drewN _ _ _).trans (fr_set q 0 _ _)⟩
      have := (HQ.out.kp (kp_drewN w m)).set 0 (.int .i64 ((s : Int) + 1))
      simpa using this
    go_enter Try.func87, Try.ntmps87
    go_wp2_with fail
    go_quiet ((go_at_call 76; have HC := less_any v u; rw [hl] at HC; exact Calls.quiet_of_same (HC _)))
    replace k1 := kp_cell (kp_drewN w nq) k1
    replace k2 := (HQ.out.kp (kp_drewN w nq)).fz 0
    replace HE := HE.out nq
    obtain ⟨w5, hw5⟩ : ∃ w5, w.drewN nq = w5 := ⟨_, rfl⟩
    rw [hw5] at k1 k2 HE ⊢
    have HE2 : Hid _ := HE
    clear hw5 HE
    go_wp2_with fail
    go_ret2
    exact ⟨b, a, s + 1, rfl, .inr ⟨rfl, rfl⟩, by omega, HE2.out⟩
set_option maxHeartbeats 4000000 in
set_option maxRecDepth 100000 in
theorem med_any {a b c s q : Nat} (h : Rw g d w) (hn : d.size = n) (ha : a < n) (hb : b < n) (hc : c < n) (hq : Lc 3 q [.int .i64 s] w) (hs : s ≤ 90) :
    Calls Try.prog 85 #[.slice (some ⟨g, 0, none⟩) n cap, .int .i64 a, .int .i64 b, .int .i64 c, .pointer (some ⟨q, 0, none⟩)] w fun r w' => ∃ (x s' : Nat), r = .returned (.int .i64 x) ∧ (x = a ∨ x = b ∨ x = c) ∧ s' ≤ s + 3 ∧ Hid (Lc 3 q [.int .i64 s'] w' ∧ Fr (On q) w w') := by
  have hgq : g ≠ q := by
    rintro rfl
    obtain ⟨cur, h1, _⟩ := h
    unfold Lc at hq; rw [hq] at h1; cases h1
  have HH : Hid (Rw g d w ∧ d.size = n ∧ Lc 3 q [.int .i64 s] w) := ⟨h, hn, hq⟩
  clear h hn hq
  go_enter Try.func85, Try.ntmps85
  go_wp2_with fail
  refine Calls.mono (ord2_any HH.out.1 HH.out.2.1 ha hb HH.out.2.2 (by omega)) ?_
  rintro r w2 ⟨x1, y1, s1, rfl, hx1, hs1, H1⟩
  have HR1 : Hid (Rw g d w2) := HH.out.1.fr H1.out.2 hgq
  have lx1 : x1 < n := by omega
  have ly1 : y1 < n := by omega
  go_wp2_with fail
  refine Calls.mono (ord2_any HR1.out HH.out.2.1 ly1 hc H1.out.1 (by omega)) ?_
  rintro r w3 ⟨x2, y2, s2, rfl, hx2, hs2, H2⟩
  have HR2 : Hid (Rw g d w3) := HR1.out.fr H2.out.2 hgq
  have lx2 : x2 < n := by omega
  go_wp2_with fail
  refine Calls.mono (ord2_any HR2.out HH.out.2.1 lx1 lx2 H2.out.1 (by omega)) ?_
  rintro r w4 ⟨x3, y3, s3, rfl, hx3, hs3, H3⟩
  have HF : Hid (∃ s', s' ≤ s + 3 ∧ (y3 = a ∨ y3 = b ∨ y3 = c) ∧ Lc 3 q [.int .i64 s'] w4 ∧ Fr (On q) w w4) := ⟨s3, by omega, by omega, H3.out.1, (H1.out.2.trans H2.out.2).trans H3.out.2⟩
  clear H1 H2 H3 HR1 HR2 HH hx1 hx2 hx3 hs1 hs2 hs3
  go_wp2_with fail
  go_ret
  obtain ⟨s', q1, q2, q3⟩ := HF.out
  exact ⟨y3, s', rfl, q2, q1, q3⟩
set_option maxHeartbeats 4000000 in
set_option maxRecDepth 100000 in
theorem piv_any {a b : Nat} (h : Rw g d w) (hn : d.size = n) (hb : b ≤ n) (hn2 : n ≤ 40) (hab : a + 12 < b) :
    Calls Try.prog 73 #[.slice (some ⟨g, 0, none⟩) n cap, .int .i64 a, .int .i64 b] w fun r w' => ∃ (x : Nat) (y : Bool), r = .returned (.tuple #[.int .i64 x, .int .i64 (if y then 1 else 0)]) ∧ a ≤ x ∧ x < b ∧ Kp w w' := by
  obtain ⟨l, hl⟩ : ∃ l, b = a + l := ⟨b - a, by omega⟩
  obtain ⟨t, ht⟩ : ∃ t, t = l / 4 := ⟨_, rfl⟩
  obtain ⟨i, hi⟩ : ∃ i, i = a + t := ⟨_, rfl⟩
  obtain ⟨j, hj⟩ : ∃ j, j = a + t * 2 := ⟨_, rfl⟩
  obtain ⟨k, hk⟩ : ∃ k, k = a + t * 3 := ⟨_, rfl⟩
  have u1 : (b : Int) - (a : Int) = (l : Int) := by omega
  have u2 : (l : Int).tdiv 4 = (t : Int) := by rw [ht]; rfl
  have u3 : (l : Int) / 4 = (t : Int) := by omega
  have u4 : (a : Int) + (t : Int) = (i : Int) := by omega
  have u5 : (a : Int) + (t : Int) * 2 = (j : Int) := by omega
  have u6 : (a : Int) + (t : Int) * 3 = (k : Int) := by omega
  have d1 : decide ((l : Int) ≥ 8) = true := decide_eq_true (by omega)
  have d2 : decide ((8 : Int) ≤ (l : Int)) = true := decide_eq_true (by omega)
  have d2' : decide (8 ≤ l) = true := decide_eq_true (by omega)
  have d3 : decide ((l : Int) ≥ 50) = false := decide_eq_false (by omega)
  have d4 : decide ((50 : Int) ≤ (l : Int)) = false := decide_eq_false (by omega)
  have d4' : decide (50 ≤ l) = false := decide_eq_false (by omega)
  have HC : Hid (Calls Try.prog 85 #[.slice (some ⟨g, 0, none⟩) n cap, .int .i64 i, .int .i64 j, .int .i64 k, .pointer (some ⟨w.heap.size, 0, none⟩)] (w.alloc (.cells #[.int .i64 0] 3)) fun r w' => ∃ (x s : Nat), r = .returned (.int .i64 x) ∧ a ≤ x ∧ x < b ∧ s ≤ 3 ∧ w'.cell? ⟨w.heap.size, 0, none⟩ = some (.int .i64 s) ∧ Kp w w') := by
    refine (med_any (s := 0) (h.kp (kp_alloc _ _)) hn (by omega) (by omega) (by omega) (Lc.new w [.int .i64 0] 3) (by omega)).mono ?_
    rintro r w' ⟨x, s, hr, hx, hs, H⟩
    refine ⟨x, s, hr, by omega, by omega, by omega, H.out.1.at (j := 0) rfl, ?_⟩
    have := (kp_alloc w (.cells #[.int .i64 0] 3))
    exact ⟨H.out.2.os.trans this.os, H.out.2.tape.trans this.tape, H.out.2.output.trans this.output, Nat.le_trans this.size H.out.2.size, fun m hm => (H.out.2.block m (Nat.lt_of_lt_of_le hm this.size) (fun q => by unfold On at q; omega)).trans (this.block m hm)⟩
  have z1 : l ≤ 40 := by omega
  have z2 : a ≤ 40 := by omega
  have z3 : b ≤ 40 := by omega
  have z4 : t ≤ 10 := by omega
  have z5 : i ≤ 40 := by omega
  have z6 : j ≤ 40 := by omega
  have z7 : k ≤ 40 := by omega
  clear h hn hl ht hi hj hk hb hn2 hab
  go_enter Try.func73, Try.ntmps73
  go_wp2_with fail
  refine Calls.mono HC.out ?_
  rintro r w2 ⟨x, s, rfl, hx1, hx2, hs, c1, kp⟩
  have HK : Hid (a ≤ x ∧ x < b ∧ Kp w w2) := ⟨hx1, hx2, kp⟩
  clear HC kp hx1 hx2
  have e2 : ((s : Int) == 12) = false := by simp; omega
  have e3 : (s == 12) = false := by simp; omega
  by_cases q : s = 0
  · subst q
    go_wp2_with fail
    go_ret2
    exact ⟨x, true, rfl, HK.out⟩
  · have e1 : ((s : Int) == 0) = false := by simp; omega
    have e4 : (s == 0) = false := by simp; omega
    clear q hs
    go_wp2_with fail
    go_ret2
    exact ⟨x, false, rfl, HK.out⟩
end
end Go.Proofs.Ytbnlenanfhggiaa
/- Numbers at random, how long a number is; patterns are broken; is it sorted already? -/
namespace Go.Proofs.Ytbnlenanfhggiaa
open Go.ChangeShapes Go.WideShapes Go.ChangeAt Go.RowKit Go.Sort
set_option linter.unusedVariables false
set_option linter.unusedSimpArgs false
theorem same_cell (w : World) (b o : Nat) (v v' : Value) : (w.setCell ⟨b, o, none⟩ v).setCell ⟨b, o, none⟩ v' = w.setCell ⟨b, o, none⟩ v' := by
  have e : ∀ cur : Array Value, (cur.setIfInBounds o v).setIfInBounds o v' = cur.setIfInBounds o v' := fun cur => by
    apply Array.ext_getElem?
    intro i
    simp only [Array.getElem?_setIfInBounds, Array.size_setIfInBounds]
    split <;> rfl
  unfold World.setCell
  congr 1
  apply Array.ext_getElem?
  intro i
  simp only [Array.getElem?_modify]
  by_cases q : b = i
  · subst q
    simp only [if_true, Option.map_map]
    cases w.heap[b]? with
    | none => rfl
    | some ob =>
      simp only [Option.map_some, Function.comp]
      cases ob <;> simp [e]
  · simp [q]
/-- How long a small number is. -/
def blen (x : Nat) : Nat := if x = 0 then 0 else if x < 2 then 1 else if x < 4 then 2 else if x < 8 then 3 else if x < 16 then 4 else if x < 32 then 5 else 6
section
variable {g : Nat} {d : Array Int} {w w1 : World} {n cap : Nat}
set_option maxHeartbeats 4000000 in
set_option maxRecDepth 100000 in
theorem xor_any {q X : Nat} (hX : X < 18446744073709551616) {T : TypeId} (hq : Lc T q [.int .u64 X] w) :
    Calls Try.prog 83 #[.pointer (some ⟨q, 0, none⟩)] w fun r w' => ∃ V : Nat, V < 18446744073709551616 ∧ r = .returned (.int .u64 V) ∧ Hid (Lc T q [.int .u64 V] w' ∧ Fr (On q) w w') := by
  obtain ⟨A, hA⟩ : ∃ A : Nat, A = X ^^^ (X * 8192 % 18446744073709551616) := ⟨_, rfl⟩
  obtain ⟨B, hB⟩ : ∃ B : Nat, B = A ^^^ (A / 128) := ⟨_, rfl⟩
  obtain ⟨C, hC⟩ : ∃ C : Nat, C = B ^^^ (B * 131072 % 18446744073709551616) := ⟨_, rfl⟩
  have lA : A < 18446744073709551616 := by rw [hA]; exact Nat.xor_lt_two_pow (n := 64) (by omega) (by omega)
  have lB : B < 18446744073709551616 := by rw [hB]; exact Nat.xor_lt_two_pow (n := 64) (by omega) (by omega)
  have lC : C < 18446744073709551616 := by rw [hC]; exact Nat.xor_lt_two_pow (n := 64) (by omega) (by omega)
  have e1 : bits .xor .u64 (X : Int) (IntKind.u64.wrap ((X : Int) * 8192)) = (A : Int) := by
    rw [IntKind.wrap_u64, show ((X : Int) * 8192 % 18446744073709551616) = ((X * 8192 % 18446744073709551616 : Nat) : Int) by omega, bits_xor_u64_nat _ _ hX (by omega), hA]
  have e2 : bits .xor .u64 (A : Int) ((A : Int) / 128) = (B : Int) := by
    rw [show ((A : Int) / 128) = ((A / 128 : Nat) : Int) by omega, bits_xor_u64_nat _ _ lA (by omega), hB]
  have e3 : bits .xor .u64 (B : Int) (IntKind.u64.wrap ((B : Int) * 131072)) = (C : Int) := by
    rw [IntKind.wrap_u64, show ((B : Int) * 131072 % 18446744073709551616) = ((B * 131072 % 18446744073709551616 : Nat) : Int) by omega, bits_xor_u64_nat _ _ lB (by omega), hC]
  clear hA hB hC
  have hss : ∀ v v', (w.setCell ⟨q, 0, none⟩ v).setCell ⟨q, 0, none⟩ v' = w.setCell ⟨q, 0, none⟩ v' := same_cell w q 0
  have hc := hq.at (j := 0) rfl
  have hf := hq.fz 0
  have HE : Hid (Lc T q [.int .u64 C] ((w.setCell ⟨q, 0, none⟩ (.int .u64 C)).drewN 3) ∧ Fr (On q) w ((w.setCell ⟨q, 0, none⟩ (.int .u64 C)).drewN 3)) := by
    refine ⟨?_, (fr_set q 0 _ _).trans (Fr.drewN _ _ _)⟩
    have := (hq.set 0 (.int .u64 C)).kp (kp_drewN _ 3)
    simpa using this
  clear hq
  go_enter Try.func83, Try.ntmps83
  go_wp2
  go_region
  all_goals go_wp2
  all_goals go_region
  all_goals go_wp2
  all_goals go_region
  all_goals go_wp2
  go_ret
  exact ⟨C, lC, rfl, HE.out⟩
theorem wrap_len {x : Nat} {B : UInt8} (h : B.toNat = blen x) : wrap64 (wrap64 (B.toNat : Int)) = (blen x : Int) := by
  rw [h]
  have : blen x ≤ 6 := by unfold blen; repeat' split
                          all_goals omega
  unfold wrap64; omega
set_option maxHeartbeats 4000000 in
set_option maxRecDepth 100000 in
theorem len64_any {x : Nat} (hx : x < 41) : Calls Try.prog 80 #[.int .u64 x] w fun r w' => r = .returned (.int .i64 (blen x)) ∧ w' = w := by
  have hc : x = 0 ∨ x = 1 ∨ x = 2 ∨ x = 3 ∨ x = 4 ∨ x = 5 ∨ x = 6 ∨ x = 7 ∨ x = 8 ∨ x = 9 ∨ x = 10 ∨ x = 11 ∨ x = 12 ∨ x = 13 ∨ x = 14 ∨ x = 15 ∨ x = 16 ∨ x = 17 ∨ x = 18 ∨ x = 19 ∨ x = 20 ∨ x = 21 ∨ x = 22 ∨ x = 23 ∨ x = 24 ∨ x = 25 ∨ x = 26 ∨ x = 27 ∨ x = 28 ∨ x = 29 ∨ x = 30 ∨ x = 31 ∨ x = 32 ∨ x = 33 ∨ x = 34 ∨ x = 35 ∨ x = 36 ∨ x = 37 ∨ x = 38 ∨ x = 39 ∨ x = 40 := by omega
  clear hx
  rcases hc with rfl | rfl | rfl | rfl | rfl | rfl | rfl | rfl | rfl | rfl | rfl | rfl | rfl | rfl | rfl | rfl | rfl | rfl | rfl | rfl | rfl | rfl | rfl | rfl | rfl | rfl | rfl | rfl | rfl | rfl | rfl | rfl | rfl | rfl | rfl | rfl | rfl | rfl | rfl | rfl | rfl <;> (go_enter Try.func80, Try.ntmps80; go_wp2; go_ret; exact ⟨congrArg (fun z => Ending.returned (Value.int .i64 z)) (wrap_len (by rfl)), rfl⟩)
set_option maxHeartbeats 4000000 in
set_option maxRecDepth 100000 in
theorem len_any {x : Nat} (hx : x < 41) : Calls Try.prog 57 #[.int .u64 x] w fun r w' => r = .returned (.int .i64 (blen x)) ∧ w' = w := by
  have HC : Hid (∀ W, Calls Try.prog 80 #[.int .u64 x] W fun r w' => r = .returned (.int .i64 (blen x)) ∧ w' = W) := fun W => len64_any hx
  go_enter Try.func57, Try.ntmps57
  go_wp2_with fail
  refine Calls.mono (HC.out _) ?_
  rintro r _ ⟨rfl, rfl⟩
  go_wp2_with fail
  go_ret
  exact ⟨rfl, rfl⟩
set_option maxHeartbeats 4000000 in
set_option maxRecDepth 100000 in
theorem pow_any {x : Nat} (h8 : 8 ≤ x) (hx : x < 41) : Calls Try.prog 82 #[.int .i64 x] w fun r w' => ∃ M : Nat, r = .returned (.int .u64 M) ∧ (x < 16 ∧ M = 16 ∨ 16 ≤ x ∧ x < 32 ∧ M = 32 ∨ 32 ≤ x ∧ M = 64) ∧ w' = w := by
  have HC : Hid (∀ W, Calls Try.prog 57 #[.int .u64 x] W fun r w' => r = .returned (.int .i64 (blen x)) ∧ w' = W) := fun W => len_any hx
  go_enter Try.func82, Try.ntmps82
  go_wp2_with fail
  refine Calls.mono (HC.out _) ?_
  rintro r _ ⟨rfl, rfl⟩
  by_cases q : x < 16
  · have e : blen x = 4 := by unfold blen; rw [if_neg (by omega), if_neg (by omega), if_neg (by omega), if_neg (by omega), if_pos q]
    rw [e]
    clear HC e
    go_wp2_with fail
    go_ret
    exact ⟨16, rfl, .inl ⟨q, rfl⟩, rfl⟩
  · by_cases q5 : x < 32
    · have e : blen x = 5 := by unfold blen; rw [if_neg (by omega), if_neg (by omega), if_neg (by omega), if_neg (by omega), if_neg q, if_pos q5]
      rw [e]
      clear HC e
      go_wp2_with fail
      go_ret
      exact ⟨32, rfl, .inr (.inl ⟨by omega, q5, rfl⟩), rfl⟩
    · have e : blen x = 6 := by unfold blen; rw [if_neg (by omega), if_neg (by omega), if_neg (by omega), if_neg (by omega), if_neg q, if_neg q5]
      rw [e]
      clear HC e
      go_wp2_with fail
      go_ret
      exact ⟨64, rfl, .inr (.inr ⟨by omega, rfl⟩), rfl⟩
/-- While patterns are broken. -/
def Brk (g n a b q : Nat) (d : Array Int) (w : World) (R : Nat) (e : Array Int) (W : World) : Prop := PermIn a b d e ∧ e.size = n ∧ Rw g e W ∧ Lc 104 q [.int .u64 R] W ∧ R < 18446744073709551616 ∧ Fr (On g) w W
set_option maxHeartbeats 16000000 in
set_option maxRecDepth 100000 in
theorem brk_any {a b : Nat} (h : Rw g d w) (hn : d.size = n) (hb : b ≤ n) (hn2 : n ≤ 40) (hab : a + 12 < b) :
    Calls Try.prog 72 #[.slice (some ⟨g, 0, none⟩) n cap, .int .i64 a, .int .i64 b] w fun r w' => r = .returned (.tuple #[]) ∧ ∃ e, PermIn a b d e ∧ e.size = n ∧ Rw g e w' ∧ Fr (On g) w w' := by
  obtain ⟨l, hl⟩ : ∃ l, b = a + l := ⟨b - a, by omega⟩
  obtain ⟨t, ht⟩ : ∃ t, t = l / 4 := ⟨_, rfl⟩
  obtain ⟨j, hj⟩ : ∃ j, j = a + t * 2 := ⟨_, rfl⟩
  obtain ⟨i0, hi0⟩ : ∃ i, j = i + 1 := ⟨j - 1, by omega⟩
  obtain ⟨j1, hj1⟩ : ∃ j1, j1 = j + 1 := ⟨_, rfl⟩
  have u1 : (b : Int) - (a : Int) = (l : Int) := by omega
  have u2 : (l : Int).tdiv 4 = (t : Int) := by rw [ht]; rfl
  have u3 : (l : Int) / 4 = (t : Int) := by omega
  have u5 : (a : Int) + (t : Int) * 2 = (j : Int) := by omega
  have u6 : (j : Int) - 1 = (i0 : Int) := by omega
  have u7 : (j : Int) + 1 = (j1 : Int) := by omega
  have d1 : decide ((l : Int) ≥ 8) = true := decide_eq_true (by omega)
  have d2 : decide ((8 : Int) ≤ (l : Int)) = true := decide_eq_true (by omega)
  have d2' : decide (8 ≤ l) = true := decide_eq_true (by omega)
  have z1 : l ≤ 40 := by omega
  have z2 : a ≤ 40 := by omega
  have z3 : b ≤ 40 := by omega
  have z4 : t ≤ 10 := by omega
  have z5 : j ≤ 40 := by omega
  have z6 : j1 ≤ 41 := by omega
  have HP : Hid (∀ W, Calls Try.prog 82 #[.int .i64 l] W fun r w' => ∃ M : Nat, r = .returned (.int .u64 M) ∧ (l < 16 ∧ M = 16 ∨ 16 ≤ l ∧ l < 32 ∧ M = 32 ∨ 32 ≤ l ∧ M = 64) ∧ w' = W) := fun W => pow_any (by omega) (by omega)
  have H0 : Hid (Brk g n a b w.heap.size d w l d (w.alloc (.cells #[.int .u64 l] 104))) := ⟨permIn_refl _ _ _, hn, h.kp (kp_alloc _ _), Lc.new w [.int .u64 l] 104, by omega, Fr.alloc _ _ _⟩
  have HN : Hid (b = a + l ∧ t = l / 4 ∧ j = a + t * 2 ∧ j = i0 + 1 ∧ j1 = j + 1 ∧ b ≤ n ∧ 12 < l) := ⟨hl, ht, hj, hi0, hj1, hb, by omega⟩
  clear h hn hl ht hj hi0 hj1 hb hab
  go_enter Try.func72, Try.ntmps72
  go_wp2_with fail
  refine Calls.mono (HP.out _) ?_
  rintro r _ ⟨M, rfl, hM, rfl⟩
  have HM : Hid (l < 16 ∧ M = 16 ∨ 16 ≤ l ∧ l < 32 ∧ M = 32 ∨ 32 ≤ l ∧ M = 64) := hM
  have hM2 : M ≤ 64 := by omega
  have hM1 : 16 ≤ M := by omega
  obtain ⟨M1, hM3⟩ : ∃ M1, M = M1 + 1 := ⟨M - 1, by omega⟩
  have u8 : (M : Int) - 1 = (M1 : Int) := by omega
  have HM3 : Hid (M = M1 + 1) := hM3
  clear HP hM hM3
  go_wp2_with fail
  go_loopw [9] (fun v9 wr => ∃ (i R : Nat) (e : Array Int), v9 = .int .i64 i ∧ i0 ≤ i ∧ i ≤ i0 + 3 ∧ Hid (Brk g n a b w.heap.size d w R e wr)) (fun v9 _ => i0 + 3 - (intOf v9).toNat)
  case atStart => exact ⟨i0, l, d, rfl, Nat.le_refl _, by omega, H0.out⟩
  case round =>
    clear H0
    obtain ⟨i, R, e, rfl, hi1, hi2, HB⟩ := hrel
    by_cases q : i ≤ j1
    · have e1 : decide ((i : Int) ≤ (j1 : Int)) = true := decide_eq_true (by omega)
      have e2 : decide (i ≤ j1) = true := decide_eq_true (by omega)
      have HX : Hid (Calls Try.prog 83 #[.pointer (some ⟨w.heap.size, 0, none⟩)] wr fun r w' => ∃ V : Nat, V < 18446744073709551616 ∧ r = .returned (.int .u64 V) ∧ Hid (Lc 104 w.heap.size [.int .u64 V] w' ∧ Fr (On w.heap.size) wr w')) := xor_any HB.out.2.2.2.2.1 HB.out.2.2.2.1
      have hij1 : i ≤ j1 := q
      clear q
      go_wp2_with fail
      refine Calls.mono HX.out ?_
      rintro r w2 ⟨V, lV, rfl, H2⟩
      have hgq : g ≠ w.heap.size := by
        intro q0
        obtain ⟨cur, h1, _⟩ := HB.out.2.2.1
        have := HB.out.2.2.2.1
        unfold Lc at this; rw [← q0, h1] at this; cases this
      have HB2 : Hid (Brk g n a b w.heap.size d w V e w2) := ⟨HB.out.1, HB.out.2.1, HB.out.2.2.1.fr H2.out.2 hgq, H2.out.1, lV, HB.out.2.2.2.2.2.trans' H2.out.2 fun k hk q0 => absurd hk (by unfold On at q0; omega)⟩
      obtain ⟨O, hO⟩ : ∃ O : Nat, O = V &&& M1 := ⟨_, rfl⟩
      have lO : O ≤ M1 := by rw [hO]; exact Nat.and_le_right
      have e3 : bits .and .u64 (V : Int) (M1 : Int) = (O : Int) := by rw [bits_and_u64_nat _ _ lV (by omega), hO]
      have lM : M1 ≤ 63 := by omega
      clear HX HB hO H2 hgq lV
      have HT : Hid (∀ p x y, a ≤ p → p < b → e[i]! = x → e[p]! = y → ∀ m, Brk g n a b w.heap.size d w V (swp e i p) (((w2.setCell ⟨g, i, none⟩ (.int .u8 y)).setCell ⟨g, p, none⟩ (.int .u8 x)).drewN m)) := fun p x y p1 p2 hx hy m => by
        have hN := HN.out
        obtain ⟨q1, q2⟩ := HB2.out.2.2.1.swp (i := i) (j := p) hy hx m
        refine ⟨permIn_trans _ _ _ _ _ HB2.out.1 (swp_permIn e a b i p (by omega) (by omega) p1 p2 (by rw [HB2.out.2.1]; omega)), by rw [size_swp]; exact HB2.out.2.1, q1, HB2.out.2.2.2.1.fr q2 ?_, HB2.out.2.2.2.2.1, HB2.out.2.2.2.2.2.trans q2⟩
        intro q0
        unfold On at q0
        obtain ⟨cur, h1, _⟩ := HB2.out.2.2.1
        have := HB2.out.2.2.2.1
        unfold Lc at this; rw [q0, h1] at this; cases this
      have li : i < n := by have := HN.out; omega
      have c1 := HB2.out.2.2.1.cell (i := i) (by rw [HB2.out.2.1]; exact li)
      have f1 := HB2.out.2.2.1.fz i
      obtain ⟨x, hx⟩ : ∃ x, e[i]! = x := ⟨_, rfl⟩
      rw [hx] at c1
      have HX : Hid (e[i]! = x) := hx
      clear hx
      by_cases q : l ≤ O
      · have e4 : decide ((O : Int) ≥ (l : Int)) = true := decide_eq_true (by omega)
        have e5 : decide ((l : Int) ≤ (O : Int)) = true := decide_eq_true (by omega)
        have e6 : decide (l ≤ O) = true := decide_eq_true (by omega)
        obtain ⟨o, ho⟩ : ∃ o, O = l + o := ⟨O - l, by omega⟩
        have u9 : (O : Int) - (l : Int) = (o : Int) := by omega
        obtain ⟨p, hp⟩ : ∃ p, p = a + o := ⟨_, rfl⟩
        have u10 : (a : Int) + (o : Int) = (p : Int) := by omega
        have pb : a ≤ p ∧ p < b := by have := HN.out; have := HM.out; have := HM3.out; omega
        have lo : o ≤ 32 := by omega
        have lp : p < n := by have := HN.out; omega
        have c2 := HB2.out.2.2.1.cell (i := p) (by rw [HB2.out.2.1]; exact lp)
        have f2 := HB2.out.2.2.1.fz p
        obtain ⟨y, hy⟩ : ∃ y, e[p]! = y := ⟨_, rfl⟩
        rw [hy] at c2
        have HE : Hid (∀ m, Brk g n a b w.heap.size d w V (swp e i p) (((w2.setCell ⟨g, i, none⟩ (.int .u8 y)).setCell ⟨g, p, none⟩ (.int .u8 x)).drewN m)) := HT.out p x y pb.1 pb.2 HX.out hy
        have hie : i + 1 ≤ i0 + 3 := by have := HN.out; omega
        clear HT HX hy hp pb HB2 HM HM3 q ho
        by_cases hne : i = p
        · subst hne
          obtain rfl : x = y := by rw [c1] at c2; cases c2; rfl
          clear c2 f2 lp
          go_wp2_with fail
          go_region
          go_wp2_with fail
          exact ⟨⟨i + 1, V, _, by go_num, by omega, by omega, HE.out 1⟩, by simp only [intOf]; omega⟩
        · go_wp2_with fail
          go_region
          go_wp2_with fail
          exact ⟨⟨i + 1, V, _, by go_num, by omega, by omega, HE.out 1⟩, by simp only [intOf]; omega⟩
      · have e4 : decide ((O : Int) ≥ (l : Int)) = false := decide_eq_false (by omega)
        have e5 : decide ((l : Int) ≤ (O : Int)) = false := decide_eq_false (by omega)
        have e6 : decide (l ≤ O) = false := decide_eq_false (by omega)
        obtain ⟨p, hp⟩ : ∃ p, p = a + O := ⟨_, rfl⟩
        have u10 : (a : Int) + (O : Int) = (p : Int) := by omega
        have pb : a ≤ p ∧ p < b := by have := HN.out; have := HM.out; have := HM3.out; omega
        have lp : p < n := by have := HN.out; omega
        have c2 := HB2.out.2.2.1.cell (i := p) (by rw [HB2.out.2.1]; exact lp)
        have f2 := HB2.out.2.2.1.fz p
        obtain ⟨y, hy⟩ : ∃ y, e[p]! = y := ⟨_, rfl⟩
        rw [hy] at c2
        have HE : Hid (∀ m, Brk g n a b w.heap.size d w V (swp e i p) (((w2.setCell ⟨g, i, none⟩ (.int .u8 y)).setCell ⟨g, p, none⟩ (.int .u8 x)).drewN m)) := HT.out p x y pb.1 pb.2 HX.out hy
        have hie : i + 1 ≤ i0 + 3 := by have := HN.out; omega
        clear HT HX hy hp pb HB2 HM HM3 q
        by_cases hne : i = p
        · subst hne
          obtain rfl : x = y := by rw [c1] at c2; cases c2; rfl
          clear c2 f2 lp
          go_wp2_with fail
          go_region
          go_wp2_with fail
          exact ⟨⟨i + 1, V, _, by go_num, by omega, by omega, HE.out 1⟩, by simp only [intOf]; omega⟩
        · go_wp2_with fail
          go_region
          go_wp2_with fail
          exact ⟨⟨i + 1, V, _, by go_num, by omega, by omega, HE.out 1⟩, by simp only [intOf]; omega⟩
    · have e1 : decide ((i : Int) ≤ (j1 : Int)) = false := decide_eq_false (by omega)
      have e2 : decide (i ≤ j1) = false := decide_eq_false (by omega)
      have HE : Hid (∃ e, PermIn a b d e ∧ e.size = n ∧ Rw g e wr ∧ Fr (On g) w wr) := ⟨e, HB.out.1, HB.out.2.1, HB.out.2.2.1, HB.out.2.2.2.2.2⟩
      clear q HB
      go_wp2_with fail
      go_end0
      exact ⟨rfl, HE.out⟩
end
end Go.Proofs.Ytbnlenanfhggiaa
/- Is it sorted already? -/
namespace Go.Proofs.Ytbnlenanfhggiaa
open Go.ChangeShapes Go.WideShapes Go.ChangeAt Go.RowKit Go.Sort
set_option linter.unusedVariables false
set_option linter.unusedSimpArgs false
section
variable {g : Nat} {d : Array Int} {w w1 : World} {n cap : Nat}
theorem sorted_next {a b : Nat} (h : ∀ x, a + 1 ≤ x → x < b → ltZ d[x]! d[x - 1]! = false) : SortedIn ltZ a b d := by
  intro i j hi hij hj
  obtain ⟨m, rfl⟩ : ∃ m, j = i + 1 + m := ⟨j - (i + 1), by omega⟩
  clear hij
  induction m with
  | zero => exact h (i + 1) (by omega) (by omega)
  | succ m ih =>
    have h1 := ih (by omega)
    have h2 := h (i + 1 + (m + 1)) (by omega) (by omega)
    rw [show i + 1 + (m + 1) - 1 = i + 1 + m by omega] at h2
    exact swoZ.ntrans _ _ _ h2 h1
set_option maxHeartbeats 16000000 in
set_option maxRecDepth 100000 in
theorem pti_any {a b : Nat} (h : Rw g d w) (hn : d.size = n) (hb : b ≤ n) (hn2 : n ≤ 40) (hab : a < b) :
    Calls Try.prog 75 #[.slice (some ⟨g, 0, none⟩) n cap, .int .i64 a, .int .i64 b] w fun r w' => ∃ y : Bool, r = .returned (.bool y) ∧ Hid ((y = true → SortedIn ltZ a b d) ∧ Kp w w') := by
  obtain ⟨l, hl⟩ : ∃ l, b = a + l := ⟨b - a, by omega⟩
  have u1 : (b : Int) - (a : Int) = (l : Int) := by omega
  have d1 : decide ((l : Int) < 50) = true := decide_eq_true (by omega)
  have d2 : decide (l < 50) = true := decide_eq_true (by omega)
  have z1 : l ≤ 40 := by omega
  have z3 : b ≤ 40 := by omega
  have z2 : a ≤ 40 := by omega
  have HR : Hid (Rw g d w ∧ d.size = n ∧ b ≤ n) := ⟨h, hn, hb⟩
  clear h hn hl hb
  go_enter Try.func75, Try.ntmps75
  go_wp2_with fail
  go_loopw [7, 8] (fun v7 v8 wr => v7 = .int .i64 ((a + 1 : Nat) : Int) ∧ v8 = .int .i64 0 ∧ w = wr) (fun _ _ _ => 0)
  case atStart => exact ⟨by go_num, rfl, rfl⟩
  case round =>
    obtain ⟨rfl, rfl, rfl⟩ := hrel
    go_wp2_with fail
    go_loopw [7] (fun v7 wr2 => ∃ (i : Nat), v7 = .int .i64 i ∧ a + 1 ≤ i ∧ i ≤ b ∧ Hid ((∀ x, a + 1 ≤ x → x < i → ltZ d[x]! d[x - 1]! = false) ∧ Kp w wr2)) (fun v7 _ => b - (intOf v7).toNat)
    case atStart => exact ⟨a + 1, by go_num, Nat.le_refl _, by omega, fun x h1 h2 => by omega, Below.refl _ _⟩
    case round =>
      obtain ⟨i, rfl, hi1, hi2, HQ⟩ := hrel
      obtain ⟨k, hk⟩ : ∃ k, i = k + 1 := ⟨i - 1, by omega⟩
      have e4 : (i : Int) - 1 = (k : Int) := by omega
      obtain ⟨u, hu⟩ : ∃ u, (decide (i < b) && !ltZ d[i]! d[k]!) = u := ⟨_, rfl⟩
      have HU : Hid ((decide (i < b) && !ltZ d[i]! d[k]!) = u ∧ i = k + 1) := ⟨hu, hk⟩
      clear hu hk
      go_upto_region 5 with fail
      go_cut [32] from 17 to 34 (fun v wx => v = .bool u ∧ Hid (∃ m, wx = wr.drewN m))
      case first =>
        by_cases q : i < b
        · have g1 : decide ((i : Int) < (b : Int)) = true := decide_eq_true (by omega)
          have g2 : decide (i < b) = true := decide_eq_true (by omega)
          have R2 := HR.out.1.kp HQ.out.2
          have l1 : i < n := by have := HR.out.2.2; omega
          have l2 : k < n := by have := HU.out.2; omega
          have k1 := R2.cell (i := i) (by rw [HR.out.2.1]; exact l1)
          have k2 := R2.cell (i := k) (by rw [HR.out.2.1]; exact l2)
          obtain ⟨x, hx⟩ : ∃ x, d[i]! = x := ⟨_, rfl⟩
          obtain ⟨z, hz⟩ : ∃ z, d[k]! = z := ⟨_, rfl⟩
          rw [hx] at k1
          rw [hz] at k2
          have hv := HU.out.1
          rw [g2, hx, hz, Bool.true_and] at hv
          subst hv
          clear HU hx hz HQ q R2 HR
          go_quiet ((go_at_call 76; exact Calls.quiet_of_same (less_any x z _)))
          go_wp2_with fail
          go_meet
          case rel => exact ⟨rfl, _, rfl⟩
        · have g1 : decide ((i : Int) < (b : Int)) = false := decide_eq_false (by omega)
          have g2 : decide (i < b) = false := decide_eq_false (by omega)
          have hv := HU.out.1
          rw [g2, Bool.false_and] at hv
          subst hv
          clear HU HQ q HR
          go_quiet (fail)
          go_wp2_with fail
          go_meet
          case rel => exact ⟨rfl, _, rfl⟩
      case rest =>
        obtain ⟨rfl, HW⟩ := hcut
        have HK : Hid (Kp w wc) := by obtain ⟨m, rfl⟩ := HW.out; exact kp_trans HQ.out.2 (kp_drewN _ _)
        clear HW
        cases u with
        | true =>
          have hh := HU.out.1
          simp only [Bool.and_eq_true, decide_eq_true_eq, Bool.not_eq_true'] at hh
          have HS : Hid ((∀ x, a + 1 ≤ x → x < i + 1 → ltZ d[x]! d[x - 1]! = false) ∧ Kp w wc) := ⟨fun x h1 h2 => by
            rcases Nat.lt_succ_iff_lt_or_eq.1 h2 with q | rfl
            · exact HQ.out.1 x h1 q
            · have hk := HU.out.2
              rw [hk, Nat.add_sub_cancel, ← hk]; exact hh.2, HK.out⟩
          have hib : i + 1 ≤ b := by omega
          clear HQ HU hh HK HR
          go_wp2_with fail
          exact ⟨⟨i + 1, by go_num, by omega, hib, HS.out⟩, by simp only [intOf]; omega⟩
        | false =>
          by_cases q : i = b
          · have HS : Hid (SortedIn ltZ a b d) := sorted_next fun x h1 h2 => HQ.out.1 x h1 (by omega)
            subst q
            have g3 : ((i : Int) == (i : Int)) = true := by simp
            clear HQ HU HR
            go_wp2_with fail
            go_ret
            exact ⟨true, rfl, fun _ => HS.out, HK.out⟩
          · have g3 : ((i : Int) == (b : Int)) = false := by simp; omega
            have g4 : (i == b) = false := by simp; omega
            clear HQ HU HR q
            go_wp2_with fail
            go_ret
            exact ⟨false, rfl, (fun h => by cases h), HK.out⟩
end
end Go.Proofs.Ytbnlenanfhggiaa
/- Parts that are sorted are the whole, sorted. -/
namespace Go.Proofs.Ytbnlenanfhggiaa
open Go.ChangeShapes Go.WideShapes Go.ChangeAt Go.RowKit Go.Sort
set_option linter.unusedVariables false
set_option linter.unusedSimpArgs false
section
variable {d e e1 e2 e3 : Array Int} {a b m : Nat}
/-- No two are the same. -/
def Dis (a b : Nat) (d : Array Int) : Prop := ∀ i j, a ≤ i → i < j → j < b → d[i]! ≠ d[j]!
/-- What lies ahead of a is less than all of them. -/
def Blw (a b : Nat) (d : Array Int) : Prop := a = 0 ∨ ∀ i, a ≤ i → i < b → ltZ d[a - 1]! d[i]! = true
theorem dis_iff (hb : b ≤ d.size) : Dis a b d ↔ (d.extract a b).toList.Nodup := by
  rw [extract_toList d a b hb, List.Nodup, List.pairwise_map, List.pairwise_iff_getElem]
  constructor
  · intro h i j hi hj hij
    simp only [List.length_range'] at hi hj
    simp only [List.getElem_range', Nat.one_mul]
    exact h (a + i) (a + j) (by omega) (by omega) (by omega)
  · intro h i j hi hij hj
    have := h (i - a) (j - a) (by simp; omega) (by simp; omega) (by omega)
    simp only [List.getElem_range', Nat.one_mul] at this
    rw [show a + (i - a) = i by omega, show a + (j - a) = j by omega] at this
    exact this
theorem Dis.perm (h : Dis a b d) (hp : PermIn a b d e) (hb : b ≤ d.size) : Dis a b e :=
  (dis_iff (by rw [hp.1]; exact hb)).2 (hp.2.2.nodup_iff.2 ((dis_iff hb).1 h))
theorem Dis.sub {a' b' : Nat} (h : Dis a b d) (ha : a ≤ a') (hb : b' ≤ b) : Dis a' b' d := fun i j h1 h2 h3 => h i j (by omega) h2 (by omega)
theorem Dis.same {a' b' : Nat} (h : Dis a' b' d) (he : ∀ i, a' ≤ i → i < b' → e[i]! = d[i]!) : Dis a' b' e := fun i j h1 h2 h3 => by rw [he i h1 (by omega), he j (by omega) h3]; exact h i j h1 h2 h3
theorem Blw.perm (h : Blw a b d) (hp : PermIn a b d e) (hb : b ≤ d.size) : Blw a b e := by
  rcases h with h | h
  · exact .inl h
  · by_cases q : a = 0
    · exact .inl q
    · refine .inr ?_
      rw [hp.2.1 (a - 1) (.inl (by omega))]
      exact permIn_all d e a b (fun x => ltZ d[a - 1]! x = true) hb hp h
theorem Blw.sub {b' : Nat} (h : Blw a b d) (hb : b' ≤ b) : Blw a b' d := by
  rcases h with h | h
  · exact .inl h
  · exact .inr fun i h1 h2 => h i h1 (by omega)
theorem perm_up (h : PermIn a b d e) {a' b' : Nat} (ha : a' ≤ a) (hb : b ≤ b') (hs : b' ≤ d.size) : PermIn a' b' d e := permIn_mono d e a b a' b' ha hb hs h
/-- What holds of a row whose two parts were sorted. -/
theorem parts_sorted (hm : e3[m]! = e1[m]!) (hl : ∀ i, a ≤ i → i < m → ltZ e3[i]! e1[m]! = true) (hu : ∀ i, m < i → i < b → ltZ e3[i]! e1[m]! = false) (s1 : SortedIn ltZ a m e3) (s2 : SortedIn ltZ (m + 1) b e3) : SortedIn ltZ a b e3 := by
  intro i j hi hij hj
  by_cases q1 : j < m
  · exact s1 i j hi hij q1
  · by_cases q2 : m < i
    · exact s2 i j (by omega) hij hj
    · by_cases q3 : i < m
      · have h1 := hl i hi q3
        by_cases q4 : j = m
        · subst q4; rw [hm]; simp only [ltZ, decide_eq_true_eq, decide_eq_false_iff_not] at *; omega
        · have h2 := hu j (by omega) hj
          simp only [ltZ, decide_eq_true_eq, decide_eq_false_iff_not] at *; omega
      · obtain rfl : i = m := by omega
        rw [hm]; exact hu j (by omega) hj
/-- The first part is sorted; then the second one. -/
theorem glue_lo (hs : b ≤ e.size) (h : Ptd a b e m e1) (p1 : PermIn a m e1 e2) (s1 : SortedIn ltZ a m e2) (p2 : PermIn (m + 1) b e2 e3) (s2 : SortedIn ltZ (m + 1) b e3) : PermIn a b e e3 ∧ SortedIn ltZ a b e3 := by
  have am := h.am
  have mb := h.mb
  have z1 : e1.size = e.size := h.perm.1
  have z2 : e2.size = e1.size := p1.1
  refine ⟨permIn_trans _ _ _ _ _ h.perm (permIn_trans _ _ _ _ _ (perm_up p1 (Nat.le_refl _) (by omega) (by omega)) (perm_up p2 (by omega) (Nat.le_refl _) (by omega))), ?_⟩
  have hm : e3[m]! = e1[m]! := by rw [p2.2.1 m (.inl (by omega)), p1.2.1 m (.inr (by omega))]
  have k1 : ∀ i, i < m + 1 → e3[i]! = e2[i]! := fun i hi => p2.2.1 i (.inl hi)
  have k2 : ∀ i, m ≤ i → e2[i]! = e1[i]! := fun i hi => p1.2.1 i (.inr hi)
  refine parts_sorted hm (fun i h1 h2 => ?_) (fun i h1 h2 => ?_) (fun i j h1 h2 h3 => by rw [k1 i (by omega), k1 j (by omega)]; exact s1 i j h1 h2 h3) s2
  · rw [k1 i (by omega)]
    exact permIn_all e1 e2 a m (fun x => ltZ x e1[m]! = true) (by omega) p1 (fun i q1 q2 => h.lo i q1 q2) i h1 h2
  · exact permIn_all e2 e3 (m + 1) b (fun x => ltZ x e1[m]! = false) (by omega) p2 (fun i q1 q2 => by rw [k2 i (by omega)]; exact h.up i (by omega) q2) i (by omega) h2
/-- The second part is sorted; then the first one. -/
theorem glue_up (hs : b ≤ e.size) (h : Ptd a b e m e1) (p1 : PermIn (m + 1) b e1 e2) (s1 : SortedIn ltZ (m + 1) b e2) (p2 : PermIn a m e2 e3) (s2 : SortedIn ltZ a m e3) : PermIn a b e e3 ∧ SortedIn ltZ a b e3 := by
  have am := h.am
  have mb := h.mb
  have z1 : e1.size = e.size := h.perm.1
  have z2 : e2.size = e1.size := p1.1
  refine ⟨permIn_trans _ _ _ _ _ h.perm (permIn_trans _ _ _ _ _ (perm_up p1 (by omega) (Nat.le_refl _) (by omega)) (perm_up p2 (Nat.le_refl _) (by omega) (by omega))), ?_⟩
  have hm : e3[m]! = e1[m]! := by rw [p2.2.1 m (.inr (by omega)), p1.2.1 m (.inl (by omega))]
  have k1 : ∀ i, m ≤ i → e3[i]! = e2[i]! := fun i hi => p2.2.1 i (.inr hi)
  have k2 : ∀ i, i < m + 1 → e2[i]! = e1[i]! := fun i hi => p1.2.1 i (.inl hi)
  refine parts_sorted hm (fun i h1 h2 => ?_) (fun i h1 h2 => ?_) s2 (fun i j h1 h2 h3 => by rw [k1 i (by omega), k1 j (by omega)]; exact s1 i j h1 h2 h3)
  · exact permIn_all e2 e3 a m (fun x => ltZ x e1[m]! = true) (by omega) p2 (fun i q1 q2 => by rw [k2 i (by omega)]; exact h.lo i q1 q2) i h1 h2
  · rw [k1 i (by omega)]
    exact permIn_all e1 e2 (m + 1) b (fun x => ltZ x e1[m]! = false) (by omega) p1 (fun i q1 q2 => h.up i (by omega) q2) i (by omega) h2
/-- The second part lies above what it was parted by. -/
theorem blw_up (hs : b ≤ e.size) (h : Ptd a b e m e1) (hd : Dis a b e) : Blw (m + 1) b e1 := by
  refine .inr fun i h1 h2 => ?_
  rw [Nat.add_sub_cancel]
  have hD : Dis a b e1 := hd.perm h.perm hs
  have q1 := h.up i (by omega) h2
  have q2 := hD m i h.am (by omega) h2
  simp only [ltZ, decide_eq_true_eq, decide_eq_false_iff_not] at *; omega
end
/-- A row under way: from a to b it is to be sorted; then all of it is. -/
structure Pdq (g n a0 b0 : Nat) (d : Array Int) (w : World) (a b : Nat) (e : Array Int) (W : World) : Prop where
  size : e.size = n
  ab : a ≤ b
  bn : b ≤ n
  less : b - a ≤ b0 - a0
  row : Rw g e W
  fr : Fr (On g) w W
  dis : Dis a b e
  blw : Blw a b e
  then_ : ∀ e', PermIn a b e e' → SortedIn ltZ a b e' → PermIn a0 b0 d e' ∧ SortedIn ltZ a0 b0 e'
section
variable {g n a0 b0 a b : Nat} {d e e1 : Array Int} {w W W1 : World}
theorem Pdq.kp (h : Pdq g n a0 b0 d w a b e W) (k : Kp W W1) : Pdq g n a0 b0 d w a b e W1 := ⟨h.size, h.ab, h.bn, h.less, h.row.kp k, h.fr.trans (Fr.of_below k), h.dis, h.blw, h.then_⟩
theorem Pdq.turn (h : Pdq g n a0 b0 d w a b e W) (hp : PermIn a b e e1) (hr : Rw g e1 W1) (hf : Fr (On g) W W1) : Pdq g n a0 b0 d w a b e1 W1 :=
  ⟨hp.1.trans h.size, h.ab, h.bn, h.less, hr, h.fr.trans hf, h.dis.perm hp (by rw [h.size]; exact h.bn), h.blw.perm hp (by rw [h.size]; exact h.bn), fun e' p s => h.then_ e' (permIn_trans _ _ _ _ _ hp p) s⟩
theorem Pdq.end_ (h : Pdq g n a0 b0 d w a b e W) (hp : PermIn a b e e1) (hs : SortedIn ltZ a b e1) (hr : Rw g e1 W1) (hf : Fr (On g) W W1) : ∃ e', PermIn a0 b0 d e' ∧ SortedIn ltZ a0 b0 e' ∧ e'.size = n ∧ Rw g e' W1 ∧ Fr (On g) w W1 :=
  ⟨e1, (h.then_ e1 hp hs).1, (h.then_ e1 hp hs).2, hp.1.trans h.size, hr, h.fr.trans hf⟩
end
end Go.Proofs.Ytbnlenanfhggiaa
/- pdqsort and Sort of a few bytes of which no two are the same. -/
namespace Go.Proofs.Ytbnlenanfhggiaa
open Go.ChangeShapes Go.WideShapes Go.ChangeAt Go.RowKit Go.Sort
set_option linter.unusedVariables false
set_option linter.unusedSimpArgs false
/-- What is known of a call of pdqsort on at most m bytes. -/
def PdqC (g n cap m : Nat) : Prop := ∀ (a b lim : Nat) (d : Array Int) (w : World), b - a ≤ m → Rw g d w → d.size = n → a ≤ b → b ≤ n → n ≤ 40 → lim ≤ 64 → Dis a b d → Blw a b d →
  Calls Try.prog 56 #[.slice (some ⟨g, 0, none⟩) n cap, .int .i64 a, .int .i64 b, .int .i64 lim] w fun r w' => r = .returned (.tuple #[]) ∧ Hid (∃ e, PermIn a b d e ∧ SortedIn ltZ a b e ∧ e.size = n ∧ Rw g e w' ∧ Fr (On g) w w')
section
variable {g n cap : Nat}
set_option maxHeartbeats 64000000 in
set_option maxRecDepth 100000 in
theorem pdq_step {m : Nat} (ih : ∀ k, k < m → PdqC g n cap k) : PdqC g n cap m := by
  intro a0 b0 lim0 d w hm hrow hsz hab hbn hn hlim hdis hblw
  have HIH : Hid (∀ (a b lim : Nat) (d : Array Int) (w : World), b - a < m → Rw g d w → d.size = n → a ≤ b → b ≤ n → lim ≤ 64 → Dis a b d → Blw a b d → Calls Try.prog 56 #[.slice (some ⟨g, 0, none⟩) n cap, .int .i64 a, .int .i64 b, .int .i64 lim] w fun r w' => r = .returned (.tuple #[]) ∧ Hid (∃ e, PermIn a b d e ∧ SortedIn ltZ a b e ∧ e.size = n ∧ Rw g e w' ∧ Fr (On g) w w')) :=
    fun a b lim d w h1 h2 h3 h4 h5 h6 h7 h8 => ih (b - a) h1 a b lim d w (Nat.le_refl _) h2 h3 h4 h5 hn h6 h7 h8
  have H0 : Hid (Pdq g n a0 b0 d w a0 b0 d w) := ⟨hsz, hab, hbn, Nat.le_refl _, hrow, Fr.refl _ _, hdis, hblw, fun e' p s => ⟨p, s⟩⟩
  have HM : Hid (b0 - a0 ≤ m) := hm
  have hb0 : b0 ≤ 40 := by omega
  clear ih hm hrow hsz hbn hdis hblw
  go_enter Try.func56, Try.ntmps56
  go_wp2_with fail
  go_loopw [1, 2, 3, 8, 9] (fun v1 v2 v3 v8 v9 wr => ∃ (a b lim : Nat) (wb wp : Bool) (e : Array Int), v1 = .int .i64 a ∧ v2 = .int .i64 b ∧ v3 = .int .i64 lim ∧ v8 = .bool wb ∧ v9 = .bool wp ∧ a ≤ b ∧ b ≤ 40 ∧ lim ≤ 64 ∧ Hid (Pdq g n a0 b0 d w a b e wr)) (fun v1 v2 _ _ _ _ => (intOf v2).toNat - (intOf v1).toNat)
  case atStart => exact ⟨a0, b0, lim0, true, true, d, rfl, rfl, rfl, rfl, rfl, hab, hb0, hlim, H0.out⟩
  case round =>
    clear H0 hab hb0 hlim
    obtain ⟨a, b, lim, wb, wp, e, rfl, rfl, rfl, rfl, rfl, hab, hb, hlim, HP⟩ := hrel
    obtain ⟨l, hl⟩ : ∃ l, b = a + l := ⟨b - a, by omega⟩
    have u1 : (b : Int) - (a : Int) = (l : Int) := by omega
    have HL : Hid (b = a + l) := hl
    have z1 : l ≤ 40 := by omega
    clear hl
    by_cases q1 : l ≤ 12
    · have d1 : decide ((l : Int) ≤ 12) = true := decide_eq_true (by omega)
      have d2 : decide (l ≤ 12) = true := decide_eq_true (by omega)
      have HC : Hid (Calls Try.prog 70 #[.slice (some ⟨g, 0, none⟩) n cap, .int .i64 a, .int .i64 b] wr fun r w' => r = .returned (.tuple #[]) ∧ Hid (∃ e', PermIn a0 b0 d e' ∧ SortedIn ltZ a0 b0 e' ∧ e'.size = n ∧ Rw g e' w' ∧ Fr (On g) w w')) := by
        refine (ins_any HP.out.row HP.out.size hab HP.out.bn (by omega)).mono ?_
        rintro r w' ⟨hr, h1, h2⟩
        obtain ⟨p, s⟩ := insertionSort_holds swoZ e a b hab (by rw [HP.out.size]; exact HP.out.bn)
        exact ⟨hr, HP.out.end_ p s h1 h2⟩
      clear HP q1 HIH HM
      go_wp2_with fail
      refine Calls.mono HC.out ?_
      rintro r w2 ⟨rfl, H2⟩
      clear HC
      go_wp2_with fail
      first | go_end0 | refine bodyPost_ret (results_none rfl _ _ _) rfl ?_
      exact ⟨rfl, H2⟩
    · have d1 : decide ((l : Int) ≤ 12) = false := decide_eq_false (by omega)
      have d2 : decide (l ≤ 12) = false := decide_eq_false (by omega)
      have hl12 : 12 < l := by omega
      clear q1
      by_cases q2 : lim = 0
      · subst q2
        have HC : Hid (Calls Try.prog 71 #[.slice (some ⟨g, 0, none⟩) n cap, .int .i64 a, .int .i64 b] wr fun r w' => r = .returned (.tuple #[]) ∧ Hid (∃ e', PermIn a0 b0 d e' ∧ SortedIn ltZ a0 b0 e' ∧ e'.size = n ∧ Rw g e' w' ∧ Fr (On g) w w')) := by
          have := HL.out
          refine (heap_any HP.out.row HP.out.size (by omega) HP.out.bn (by omega)).mono ?_
          rintro r w' ⟨hr, h1, h2⟩
          obtain ⟨p, s⟩ := heapSort_holds swoZ e a b hab (by rw [HP.out.size]; exact HP.out.bn)
          exact ⟨hr, HP.out.end_ p s h1 h2⟩
        clear HP HIH HM
        go_wp2_with fail
        refine Calls.mono HC.out ?_
        rintro r w2 ⟨rfl, H2⟩
        clear HC
        go_wp2_with fail
        first | go_end0 | refine bodyPost_ret (results_none rfl _ _ _) rfl ?_
        exact ⟨rfl, H2⟩
      · have d3 : ((lim : Int) == 0) = false := by simp; omega
        have d4 : (lim == 0) = false := by simp; omega
        have hl1 : 1 ≤ lim := by omega
        clear q2
        go_upto_if 35 with fail
        go_cut [3] from 19 to 133 (fun v3 wx => ∃ lim' : Nat, v3 = .int .i64 lim' ∧ lim' ≤ 64 ∧ Hid (∃ e1, Pdq g n a0 b0 d w a b e1 wx))
        case first =>
          cases wb with
          | true =>
            go_wp2_with fail
            go_meet
            case rel => exact ⟨lim, rfl, hlim, e, HP.out⟩
          | false =>
            have HC : Hid (Calls Try.prog 72 #[.slice (some ⟨g, 0, none⟩) n cap, .int .i64 a, .int .i64 b] wr fun r w' => r = .returned (.tuple #[]) ∧ Hid (∃ e1, Pdq g n a0 b0 d w a b e1 w')) := by
              have := HL.out
              refine (brk_any HP.out.row HP.out.size HP.out.bn hn (by omega)).mono ?_
              rintro r w' ⟨hr, e1, h1, _, h3, h4⟩
              exact ⟨hr, e1, HP.out.turn h1 h3 h4⟩
            clear HP HIH HM
            go_wp2_with fail
            refine Calls.mono HC.out ?_
            rintro r w2 ⟨rfl, H2⟩
            clear HC
            obtain ⟨k, hk⟩ : ∃ k, lim = k + 1 := ⟨lim - 1, by omega⟩
            have e4 : (lim : Int) - 1 = (k : Int) := by omega
            have hk2 : k ≤ 64 := by omega
            clear hk
            go_wp2_with fail
            go_meet
            case rel => exact ⟨k, rfl, hk2, H2.out⟩
        case rest =>
          obtain ⟨lim', rfl, hlim', HE⟩ := hcut
          clear HP d3 d4 hl1 hlim
          obtain ⟨e1, h1⟩ := HE.out
          have HP : Hid (Pdq g n a0 b0 d w a b e1 wc) := h1
          clear HE h1
          have HV : Hid (Calls Try.prog 73 #[.slice (some ⟨g, 0, none⟩) n cap, .int .i64 a, .int .i64 b] wc fun r w' => ∃ (x : Nat) (y : Bool), r = .returned (.tuple #[.int .i64 x, .int .i64 (if y then 1 else 0)]) ∧ a ≤ x ∧ x < b ∧ Kp wc w') := by
            have := HL.out
            exact piv_any HP.out.row HP.out.size HP.out.bn (by omega) (by omega)
          go_wp2_with fail
          refine Calls.mono HV.out ?_
          rintro r w2 ⟨x, y, rfl, hx1, hx2, k2⟩
          replace HP : Hid (Pdq g n a0 b0 d w a b e1 w2) := HP.out.kp k2
          clear HV k2
          obtain ⟨H, hH⟩ : ∃ H : Int, (if y then 1 else 0) = H := ⟨_, rfl⟩
          have m1 : (H == 2) = false := by rw [← hH]; cases y <;> rfl
          have m2 : (H == 1) = y := by rw [← hH]; cases y <;> rfl
          rw [hH]
          clear hH
          obtain ⟨c, hc⟩ : ∃ c, (wb && wp && y) = c := ⟨_, rfl⟩
          have HCC : Hid ((wb && wp && y) = c) := hc
          clear hc
          go_upto_region 15 with fail
          go_cut [68] from 19 to 133 (fun v wx => v = .bool c ∧ w2 = wx)
          case first =>
            have hcc := HCC.out
            cases wb with
            | false =>
              obtain rfl : c = false := by rw [← hcc]; rfl
              clear hcc HCC HIH HM HP
              go_wp2_with fail
              go_meet
              case rel => exact ⟨rfl, rfl⟩
            | true =>
              cases wp with
              | false =>
                obtain rfl : c = false := by rw [← hcc]; rfl
                clear hcc HCC HIH HM HP
                go_wp2_with fail
                go_meet
                case rel => exact ⟨rfl, rfl⟩
              | true =>
                obtain rfl : c = y := by rw [← hcc]; rfl
                clear hcc HCC HIH HM HP
                go_wp2_with fail
                go_meet
                case rel => exact ⟨rfl, rfl⟩
          case rest =>
            obtain ⟨rfl, rfl⟩ := hcut
            clear HCC m1 m2
            go_upto_if 68 with fail
            go_cut [] from 19 to 133 (fun wx => Hid (Pdq g n a0 b0 d w a b e1 wx))
            case first =>
              cases c with
              | false =>
                go_wp2_with fail
                go_meet
                case rel => exact HP.out
              | true =>
                have HC : Hid (Calls Try.prog 75 #[.slice (some ⟨g, 0, none⟩) n cap, .int .i64 a, .int .i64 b] w2 fun r w' => ∃ y : Bool, r = .returned (.bool y) ∧ Hid ((y = true → ∃ e', PermIn a0 b0 d e' ∧ SortedIn ltZ a0 b0 e' ∧ e'.size = n ∧ Rw g e' w' ∧ Fr (On g) w w') ∧ Pdq g n a0 b0 d w a b e1 w')) := by
                  have := HL.out
                  refine (pti_any HP.out.row HP.out.size HP.out.bn (by omega) (by omega)).mono ?_
                  rintro r w' ⟨y, hr, HH⟩
                  exact ⟨y, hr, fun hy => HP.out.end_ (permIn_refl _ _ _) (HH.out.1 hy) (HP.out.row.kp HH.out.2) (Fr.of_below HH.out.2), HP.out.kp HH.out.2⟩
                clear HP HIH HM
                go_wp2_with fail
                refine Calls.mono HC.out ?_
                rintro r w3 ⟨y2, rfl, H3⟩
                clear HC
                cases y2 with
                | true =>
                  have H4 : Hid _ := H3.out.1 rfl
                  clear H3
                  go_wp2_with fail
                  first | go_end0 | refine bodyPost_ret (results_none rfl _ _ _) rfl ?_
                  exact ⟨rfl, H4.out⟩
                | false =>
                  go_wp2_with fail
                  go_meet
                  case rel => exact H3.out.2
            case rest =>
              replace HP := hcut
              clear hcut
              go_upto_region 17 with fail
              go_cut [87] from 19 to 133 (fun v wx => v = .bool false ∧ Hid (∃ m, wx = wc.drewN m))
              case first =>
                by_cases q : a = 0
                · subst q
                  clear HP HIH HM
                  go_quiet (fail)
                  go_wp2_with fail
                  go_meet
                  case rel => exact ⟨rfl, _, rfl⟩
                · have g1 : decide ((a : Int) > 0) = true := decide_eq_true (by omega)
                  have g2 : decide ((0 : Int) < (a : Int)) = true := decide_eq_true (by omega)
                  have g3 : decide (0 < a) = true := decide_eq_true (by omega)
                  obtain ⟨k, hk⟩ : ∃ k, a = k + 1 := ⟨a - 1, by omega⟩
                  have e4 : (a : Int) - 1 = (k : Int) := by omega
                  have hbn := HP.out.bn
                  have l1 : k < n := by omega
                  have l2 : x < n := by omega
                  have k1 := HP.out.row.cell (i := k) (by rw [HP.out.size]; exact l1)
                  have k2 := HP.out.row.cell (i := x) (by rw [HP.out.size]; exact l2)
                  have hlt : ltZ e1[k]! e1[x]! = true := by
                    rcases HP.out.blw with h | h
                    · exact absurd h q
                    · have := h x hx1 hx2
                      rw [hk, Nat.add_sub_cancel] at this
                      exact this
                  obtain ⟨s, hs⟩ : ∃ s, e1[k]! = s := ⟨_, rfl⟩
                  obtain ⟨t, ht⟩ : ∃ t, e1[x]! = t := ⟨_, rfl⟩
                  rw [hs] at k1 hlt
                  rw [ht] at k2 hlt
                  clear hs ht hk q HP HIH HM hbn
                  go_quiet ((go_at_call 76; have HC := less_any s t; rw [hlt] at HC; exact Calls.quiet_of_same (HC _)))
                  go_wp2_with fail
                  go_meet
                  case rel => exact ⟨rfl, _, rfl⟩
              case rest =>
                obtain ⟨rfl, HW⟩ := hcut
                replace HP : Hid (Pdq g n a0 b0 d w a b e1 wc) := by obtain ⟨m, hm⟩ := HW.out; rw [hm]; exact HP.out.kp (kp_drewN _ _)
                clear HW
                have HV : Hid (Calls Try.prog 78 #[.slice (some ⟨g, 0, none⟩) n cap, .int .i64 a, .int .i64 b, .int .i64 x] wc fun r w' => ∃ (m : Nat) (y : Bool) (e2 : Array Int), r = .returned (.tuple #[.int .i64 m, .bool y]) ∧ Hid (Ptd a b e1 m e2 ∧ e2.size = n ∧ Rw g e2 w' ∧ Fr (On g) wc w')) := part_any HP.out.row HP.out.size hx1 hx2 HP.out.bn (by omega)
                go_wp2_with fail
                refine Calls.mono HV.out ?_
                rintro r w4 ⟨M, y4, e2, rfl, H4⟩
                clear HV
                have hM1 : a ≤ M := H4.out.1.am
                have hM2 : M < b := H4.out.1.mb
                obtain ⟨L, hL⟩ : ∃ L, M = a + L := ⟨M - a, by omega⟩
                obtain ⟨R, hR⟩ : ∃ R, b = M + R := ⟨b - M, by omega⟩
                have v1 : (M : Int) - (a : Int) = (L : Int) := by omega
                have v2 : (b : Int) - (M : Int) = (R : Int) := by omega
                obtain ⟨th, hth⟩ : ∃ th, th = l / 8 := ⟨_, rfl⟩
                have v3 : (l : Int).tdiv 8 = (th : Int) := by rw [hth]; rfl
                have v4 : (l : Int) / 8 = (th : Int) := by omega
                have z2 : L ≤ 40 := by omega
                have z3 : R ≤ 40 := by omega
                have z4 : M ≤ 40 := by omega
                have z5 : th ≤ 40 := by omega
                have hbs : b ≤ e1.size := by rw [HP.out.size]; exact HP.out.bn
                have HLO : Hid (∀ (e3 : Array Int) (w' : World), PermIn a M e2 e3 → SortedIn ltZ a M e3 → Rw g e3 w' → Fr (On g) w4 w' → Pdq g n a0 b0 d w (M + 1) b e3 w') := fun e3 w' p1 s1 r1 f1 => by
                  have hless := HP.out.less
                  have k2 : ∀ i, M ≤ i → e3[i]! = e2[i]! := fun i hi => p1.2.1 i (.inr hi)
                  refine ⟨p1.1.trans H4.out.2.1, by omega, HP.out.bn, by omega, r1, (HP.out.fr.trans H4.out.2.2.2).trans f1, ?_, ?_, fun e' p s => ?_⟩
                  · exact ((HP.out.dis.perm H4.out.1.perm hbs).sub (by omega) (Nat.le_refl _)).same fun i h1 h2 => k2 i (by omega)
                  · rcases blw_up hbs H4.out.1 HP.out.dis with h | h
                    · omega
                    · refine .inr fun i h1 h2 => ?_
                      rw [Nat.add_sub_cancel, k2 M (Nat.le_refl _), k2 i (by omega)]
                      have := h i h1 h2
                      rw [Nat.add_sub_cancel] at this
                      exact this
                  · obtain ⟨q1, q2⟩ := glue_lo hbs H4.out.1 p1 s1 p s
                    exact HP.out.then_ e' q1 q2
                have HUP : Hid (∀ (e3 : Array Int) (w' : World), PermIn (M + 1) b e2 e3 → SortedIn ltZ (M + 1) b e3 → Rw g e3 w' → Fr (On g) w4 w' → Pdq g n a0 b0 d w a M e3 w') := fun e3 w' p1 s1 r1 f1 => by
                  have hless := HP.out.less
                  have hbn := HP.out.bn
                  have k2 : ∀ i, i < M + 1 → e3[i]! = e2[i]! := fun i hi => p1.2.1 i (.inl hi)
                  refine ⟨p1.1.trans H4.out.2.1, hM1, by omega, by omega, r1, (HP.out.fr.trans H4.out.2.2.2).trans f1, ?_, ?_, fun e' p s => ?_⟩
                  · exact ((HP.out.dis.perm H4.out.1.perm hbs).sub (Nat.le_refl _) (by omega)).same fun i h1 h2 => k2 i (by omega)
                  · rcases HP.out.blw.perm H4.out.1.perm hbs with h | h
                    · exact .inl h
                    · by_cases q0 : a = 0
                      · exact .inl q0
                      · refine .inr fun i h1 h2 => ?_
                        rw [k2 (a - 1) (by omega), k2 i (by omega)]
                        exact h i h1 (by omega)
                  · obtain ⟨q1, q2⟩ := glue_up hbs H4.out.1 p1 s1 p s
                    exact HP.out.then_ e' q1 q2
                have HC1 : Hid (∀ lm : Nat, lm ≤ 64 → Calls Try.prog 56 #[.slice (some ⟨g, 0, none⟩) n cap, .int .i64 a, .int .i64 M, .int .i64 lm] w4 fun r w' => r = .returned (.tuple #[]) ∧ Hid (∃ e3, Pdq g n a0 b0 d w (M + 1) b e3 w')) := fun lm hlm => by
                  have hless := HP.out.less
                  have hmm := HM.out
                  have hbn := HP.out.bn
                  refine (HIH.out a M lm e2 w4 (by omega) H4.out.2.2.1 H4.out.2.1 hM1 (by omega) hlm ((HP.out.dis.perm H4.out.1.perm hbs).sub (Nat.le_refl _) (by omega)) ((HP.out.blw.perm H4.out.1.perm hbs).sub (by omega))).mono ?_
                  rintro r w' ⟨hr, HH⟩
                  obtain ⟨e3, q1, q2, q3, q4, q5⟩ := HH.out
                  exact ⟨hr, e3, HLO.out e3 w' q1 q2 q4 q5⟩
                have HC2 : Hid (∀ lm : Nat, lm ≤ 64 → Calls Try.prog 56 #[.slice (some ⟨g, 0, none⟩) n cap, .int .i64 ((M : Int) + 1), .int .i64 b, .int .i64 lm] w4 fun r w' => r = .returned (.tuple #[]) ∧ Hid (∃ e3, Pdq g n a0 b0 d w a M e3 w')) := fun lm hlm => by
                  have hless := HP.out.less
                  have hmm := HM.out
                  have hbn := HP.out.bn
                  have := (HIH.out (M + 1) b lm e2 w4 (by omega) H4.out.2.2.1 H4.out.2.1 (by omega) hbn hlm ((HP.out.dis.perm H4.out.1.perm hbs).sub (by omega) (Nat.le_refl _)) (blw_up hbs H4.out.1 HP.out.dis))
                  rw [show (((M + 1 : Nat) : Int)) = (M : Int) + 1 by omega] at this
                  refine this.mono ?_
                  rintro r w' ⟨hr, HH⟩
                  obtain ⟨e3, q1, q2, q3, q4, q5⟩ := HH.out
                  exact ⟨hr, e3, HUP.out e3 w' q1 q2 q4 q5⟩
                have HMb : Hid (a ≤ M ∧ M < b ∧ b = a + l) := ⟨hM1, hM2, HL.out⟩
                clear HLO HUP HP HIH HM H4 hbs hL hR hth hM1 hM2 hx1 hx2 HL
                by_cases q : L < R
                · have g1 : decide ((L : Int) < (R : Int)) = true := decide_eq_true (by omega)
                  have g2 : decide (L < R) = true := decide_eq_true (by omega)
                  clear HC2 q
                  go_wp2_with fail
                  refine Calls.mono (HC1.out lim' hlim') ?_
                  rintro r w6 ⟨rfl, H6⟩
                  clear HC1
                  go_wp2_with fail
                  obtain ⟨e3, h3⟩ := H6.out
                  have := HMb.out
                  exact ⟨⟨M + 1, b, lim', _, _, e3, by go_num, rfl, rfl, rfl, rfl, by omega, hb, hlim', h3⟩, by simp only [intOf]; omega⟩
                · have g1 : decide ((L : Int) < (R : Int)) = false := decide_eq_false (by omega)
                  have g2 : decide (L < R) = false := decide_eq_false (by omega)
                  clear HC1 q
                  go_wp2_with fail
                  refine Calls.mono (HC2.out lim' hlim') ?_
                  rintro r w6 ⟨rfl, H6⟩
                  clear HC2
                  go_wp2_with fail
                  obtain ⟨e3, h3⟩ := H6.out
                  have := HMb.out
                  exact ⟨⟨a, M, lim', _, _, e3, rfl, rfl, rfl, rfl, rfl, by omega, by omega, hlim', h3⟩, by simp only [intOf]; omega⟩
theorem pdq_any (m : Nat) : PdqC g n cap m := by
  induction m using Nat.strongRecOn with
  | ind m ih => exact pdq_step ih
/-- All of it is sorted. -/
theorem sort_any {d : Array Int} {w : World} (h : Rw g d w) (hn : d.size = n) (h26 : n ≤ 40) (hd : Dis 0 n d) :
    Calls Try.prog 46 #[.slice (some ⟨g, 0, none⟩) n cap] w fun r w' => r = .returned (.tuple #[]) ∧ Hid (∃ e, PermIn 0 n d e ∧ SortedIn ltZ 0 n e ∧ e.size = n ∧ Rw g e w' ∧ Fr (On g) w w') := by
  have hb : blen n ≤ 64 := by unfold blen; repeat' split
                              all_goals omega
  have HC : Hid (∀ W, Calls Try.prog 57 #[.int .u64 n] W fun r w' => r = .returned (.int .i64 (blen n)) ∧ w' = W) := fun W => len_any (by omega)
  have HP : Hid (Calls Try.prog 56 #[.slice (some ⟨g, 0, none⟩) n cap, .int .i64 0, .int .i64 n, .int .i64 (blen n)] w fun r w' => r = .returned (.tuple #[]) ∧ Hid (∃ e, PermIn 0 n d e ∧ SortedIn ltZ 0 n e ∧ e.size = n ∧ Rw g e w' ∧ Fr (On g) w w')) :=
    pdq_any n 0 n (blen n) d w (by omega) h hn (Nat.zero_le _) (Nat.le_refl _) h26 hb hd (.inl rfl)
  clear h hn hd hb
  go_enter Try.func46, Try.ntmps46
  go_wp2_with fail
  refine Calls.mono (HC.out _) ?_
  rintro r _ ⟨rfl, rfl⟩
  go_wp2_with fail
  refine Calls.mono HP.out ?_
  rintro r w2 ⟨rfl, H2⟩
  clear HC HP
  go_wp2_with fail
  go_end0
  exact ⟨rfl, H2⟩
end
end Go.Proofs.Ytbnlenanfhggiaa
/- The keys of a map, one by one; gathered in a list. -/
namespace Go.Proofs.Ytbnlenanfhggiaa
open Go.ChangeShapes Go.WideShapes Go.ChangeAt Go.RowKit Go.Maps Go.MapKept Go.Shelf
set_option linter.unusedVariables false
set_option linter.unusedSimpArgs false
attribute [local go_sem] Oper.semAt_some
section
variable {F : Fence} {n : Nat} {b r c : Nat} {m : Int → Option Value} {left : Int → Bool} {w : World} {ops : Array Oper} {rest : List Oper} {o : Oper} {a : Act} {Q : Exit → Act → World → Prop}
theorem wpli_range (hg : o.guard = none) (x : Operand) (T E : TypeId) (hop : o.op = Op.range T x) (ht : Try.prog.underlying T = some (.map 5 E)) (hm : a.eval x = .map (some b)) (h : Mp b m w)
    (hK : ∀ w' c, Rgg b w.heap.size m (fun x => (m x).isSome) c w' → w.grownBy w' none → w'.heap.size = w.heap.size + 1 → wpListIn F n Try.prog ops Q rest (a.put o.dst (.pointer (some ⟨w.heap.size, 0, none⟩))) w') :
    wpListIn F n Try.prog ops Q (o :: rest) a w := by
  refine wpListIn_plain hg fun K' hK' => ?_
  obtain ⟨w', c, hrun, r1, r2, r3⟩ := h.ranged ht
  unfold Oper.wpIn
  refine ⟨by simp [Oper.about, hop], ?_⟩
  rw [Oper.semAt_plain F _ _ (by rw [hop]; intro c hc'; cases hc')]
  simp [execOp, hop, hm, hrun, Result.andThen]
  exact hK' _ _ (hK w' c r1 ⟨r2.os, r2.tape, r2.output, r2.size, fun i hi _ => r2.block i hi⟩ r3)
theorem wpli_next (hg : o.guard = none) (x : Operand) (hop : o.op = Op.next x false) (hm : a.eval x = .pointer (some ⟨r, 0, none⟩)) (h : Rgg b r m left c w)
    (h0 : (∀ y, left y = false) → wpListIn F n Try.prog ops Q rest (a.put o.dst (.tuple #[.bool false])) w)
    (h1 : ∀ y v w' c', 0 ≤ y → y < 256 → left y = true → m y = some v → Rgg b r m (fun z => left z && !decide (z = y)) c' w' → c' < c → w.grownBy w' (some r) → w'.heap.size = w.heap.size →
      (Instr.entry (.pointer (some ⟨r, 0, none⟩))).run Try.prog w' = .ok (.tuple #[.int .u8 y, v]) w' → wpListIn F n Try.prog ops Q rest (a.put o.dst (.tuple #[.bool true, .int .u8 y, v])) w') :
    wpListIn F n Try.prog ops Q (o :: rest) a w := by
  refine wpListIn_plain hg fun K' hK' => ?_
  unfold Oper.wpIn
  refine ⟨by simp [Oper.about, hop], ?_⟩
  rw [Oper.semAt_plain F _ _ (by rw [hop]; intro c hc'; cases hc')]
  rcases h.next o.type with ⟨h2, hrun⟩ | ⟨y, v, w', c', q1, q2, q3, q4, hrun, q5, q6, q7, q8, q9⟩
  · simp [execOp, hop, hm, hrun, Result.andThen]
    exact hK' _ _ (h0 h2)
  · simp [execOp, hop, hm, hrun, Result.andThen]
    exact hK' _ _ (h1 y v w' c' q1 q2 q3 q4 q5 q6 ⟨q7.os, q7.tape, q7.output, q7.size, fun i hi hne => q7.block i hi fun e => hne (by unfold On at e; rw [e])⟩ q8 q9)
end
/-- Keys that have come: each once, all but those that are left. -/
def Cld (f : Int → Option Value) (left : Int → Bool) (ss : List Int) : Prop := ss.Nodup ∧ ∀ x, x ∈ ss ↔ (f x ≠ none ∧ left x = false)
/-- All keys, each once. -/
def Kys (f : Int → Option Value) (ss : List Int) : Prop := ss.Nodup ∧ ∀ x, x ∈ ss ↔ f x ≠ none
section
variable {b r c : Nat} {f : Int → Option Value} {left : Int → Bool} {w w1 : World} {ss : List Int}
theorem Cld.start (f : Int → Option Value) : Cld f (fun x => (f x).isSome) [] := by
  refine ⟨List.nodup_nil, fun x => ?_⟩
  cases q : f x <;> simp [q]
theorem Cld.step (h : Cld f left ss) {y : Int} (hy : left y = true) (hf : f y ≠ none) : Cld f (fun z => left z && !decide (z = y)) (ss ++ [y]) := by
  refine ⟨List.nodup_append.2 ⟨h.1, by simp, fun a ha b hb => ?_⟩, fun x => ?_⟩
  · rw [List.mem_singleton] at hb; subst hb
    rintro rfl
    rw [((h.2 a).1 ha).2] at hy; cases hy
  · rw [List.mem_append, List.mem_singleton, h.2 x]
    by_cases q : x = y
    · subst q; simp [hf]
    · simp [q]
theorem Cld.end_ (h : Cld f left ss) (hl : ∀ x, left x = false) : Kys f ss := ⟨h.1, fun x => by rw [h.2 x]; simp [hl x]⟩
theorem nodup_len : ∀ (k : Nat) (lo : Int) (l : List Int), l.Nodup → (∀ x ∈ l, lo ≤ x ∧ x < lo + k) → l.length ≤ k := by
  intro k
  induction k with
  | zero => intro lo l _ h; cases l with
    | nil => simp
    | cons x r => have := h x (by simp); omega
  | succ k ih =>
    intro lo l hn h
    have h1 := ih (lo + 1) (l.filter fun x => decide (x ≠ lo)) (hn.filter _) (fun x hx => by
      obtain ⟨m1, m2⟩ := List.mem_filter.1 hx
      have := h x m1
      simp only [decide_eq_true_eq] at m2
      omega)
    have h2 : l.length ≤ (l.filter fun x => decide (x ≠ lo)).length + 1 := by
      clear h1 h ih
      induction l with
      | nil => simp
      | cons y t iht =>
        obtain ⟨n1, n2⟩ := List.nodup_cons.1 hn
        by_cases q : y = lo
        · subst q
          have : t.filter (fun x => decide (x ≠ y)) = t := List.filter_eq_self.2 fun x hx => by
            simp only [decide_eq_true_eq]; rintro rfl; exact n1 hx
          rw [List.filter_cons_of_neg (by simp), this]; simp
        · rw [List.filter_cons_of_pos (by simpa using q)]
          have := iht n2
          simp only [List.length_cons]; omega
    omega
theorem Rgg.of_walks (h : Rgg b r f left c w) (hk : KeepsWalks w w1) : Rgg b r f left c w1 := by
  obtain ⟨es, cl, s, q, c0, h1, h2, h3, h4, rest⟩ := h
  exact ⟨es, cl, s, q, c0, hk.same b _ h1 rfl, h2, h3, hk.same r _ h4 rfl, rest⟩
theorem Rgg.iter_walk (h : Rgg b r f left c w) : ∃ o : Obj, w.heap[r]? = some o ∧ o.isWalk = true := by
  obtain ⟨es, cl, s, q, c0, h1, h2, h3, h4, rest⟩ := h
  exact ⟨_, h4, rfl⟩
end
set_option maxHeartbeats 1000000 in
theorem keys_any (b : Nat) (w : World) : Calls Try.prog 32 #[.map (some b)] w fun e w' => e = .returned (.func (.func 47) #[] #[.pointer (some ⟨w.heap.size, 0, none⟩)]) ∧ w' = w.alloc (.cells #[.map (some b)] 54) := by
  have hmf : ∀ (fn : Fn) (first cap : Array Value) (w : World), (Instr.makeFunc fn first cap).run Try.prog w = .ok (.func fn first cap) w := fun _ _ _ _ => rfl
  go_enter Try.func32, Try.ntmps32
  go_wp2
  go_ret
  exact ⟨rfl, rfl⟩
set_option maxRecDepth 100000 in
set_option maxHeartbeats 2000000 in
theorem keys1_in (F : Fence) (n : Nat) (hF : F.fn 47) (hro : F.round = none) (hn : 1 ≤ n) (l Bm b N : Nat) (f : Int → Option Value) (hN : ∀ ss x, (ss ++ [x]).Nodup → (∀ y ∈ ss ++ [x], f y ≠ none) → ss.length < N) (J Jx : List Int → World → Prop)
    (hY : ∀ pre x W, J pre W → pre.length < N → YieldAt F (n - 1) Try.prog l #[.int .u8 x] W fun e W' => (e = .returned (.bool true) ∧ J (pre ++ [x]) W' ∧ KeepsWalks W W') ∨ (e = .returned (.bool false) ∧ Jx (pre ++ [x]) W'))
    (W : World) (hJ : AbidesFrom W.heap.size J) (hm : W.cell? ⟨Bm, 0, none⟩ = some (.map (some b))) (hown : Mp b f W) (h0 : J [] W) :
    CallsIn F n Try.prog 47 #[.func (.yield l) #[] #[], .pointer (some ⟨Bm, 0, none⟩)] W fun e W' => (∃ v, e = .returned v) ∧ ((∃ ss, Kys f ss ∧ J ss W') ∨ (∃ pre, True ∧ Jx pre W')) := by
  refine callsIn_of_wp Try.func47 rfl hF ?_ hro
  simp only [Try.ntmps47, List.size_toArray, List.length_cons, List.length_nil, Nat.reduceAdd, Nat.reduceSub, Array.replicate_succ, Array.replicate_zero, List.push_toArray, List.append_toArray, List.nil_append, List.cons_append]
  have HN : Hid _ := hN
  have HY : Hid _ := hY
  have HJ : Hid (AbidesFrom W.heap.size J) := hJ
  clear hN hY hJ
  gi_wp2_with (first | (gi_at_range; refine wpli_range rfl _ 54 24 rfl Try.underlying54 rfl hown ?_; intro w0 c0 hrg0 hg0 hs0) | gi_in)
  go_frame
  have HS : Hid (J [] w0) := HJ.out [] W w0 none h0 hg0 (fun r e => by cases e)
  clear h0 hg0 hs0 hm hown
  gi_loopw [3] (fun _ wr => ∃ (left : Int → Bool) (cnt : Nat) (ss : List Int), Hid (Rgg b W.heap.size f left cnt wr ∧ Cld f left ss ∧ J ss wr)) (fun _ wr => wr.rangeLeft b W.heap.size)
  case atStart => exact ⟨_, _, [], hrg0, Cld.start f, HS.out⟩
  case round =>
    obtain ⟨left, cnt, ss, HQ⟩ := hrel
    clear hrg0 HS
    have hrg := HQ.out.1
    gi_wp2_with (first | (gi_at_next; refine wpli_next rfl _ rfl rfl hrg ?_ ?_) | gi_in)
    · intro hl
      have HE : Hid (∃ ss, Kys f ss ∧ J ss wr) := ⟨ss, HQ.out.2.1.end_ hl, HQ.out.2.2⟩
      clear hl hrg HQ
      gi_wp2
      go_end0
      exact ⟨⟨_, rfl⟩, .inl HE.out⟩
    · intro y v w2 c2 y0 y1 hly hy hr2 hlt2 hg2 hs2 hen
      have hC := HQ.out.2.1.step hly (by rw [hy]; simp)
      have hlen : ss.length < N := HN.out ss y hC.1 fun z hz => ((hC.2 z).1 hz).1
      have hJ2 : J ss w2 := HJ.out ss wr w2 (some W.heap.size) HQ.out.2.2 hg2 (fun r e => by cases e; exact ⟨Nat.le_refl _, hrg.iter_walk⟩)
      obtain ⟨fn, tmps, assign, body, hyl, hR⟩ := HY.out ss y w2 hJ2 hlen
      have HR : Hid (wr.rangeLeft b W.heap.size = cnt) := hrg.left_eq
      have HC : Hid _ := hC
      have HL : Hid (c2 < cnt) := hlt2
      have HR2 : Hid (Rgg b W.heap.size f (fun z => left z && !decide (z = y)) c2 w2) := hr2
      clear hs2 hg2 hly hy hrg HQ hJ2 hlen hC hlt2 hr2
      gi_wp2
      refine hR.mono ?_
      rintro e W3 (⟨rfl, hJ3, hk3⟩ | ⟨rfl, hJx3⟩)
      · have HX : Hid (Rgg b W.heap.size f (fun z => left z && !decide (z = y)) c2 W3 ∧ Cld f (fun z => left z && !decide (z = y)) (ss ++ [y]) ∧ J (ss ++ [y]) W3) := ⟨HR2.out.of_walks hk3, HC.out, hJ3⟩
        clear hJ3 hk3 HR2 HC hen
        gi_wp2
        go_roundw
        case rel => exact ⟨_, c2, _, HX.out⟩
        case measure => rw [HX.out.1.left_eq, HR.out]; exact HL.out
      · clear HR2 HC hen HL HR
        gi_wp2
        refine bodyPost_ret (results_none rfl _ _ _) rfl ?_
        exact ⟨⟨_, rfl⟩, .inr ⟨_, trivial, hJx3⟩⟩
theorem keys_seq (F : Fence) (n : Nat) (hF : F.fn 47) (hro : F.round = none) (hn : 1 ≤ n) (Bm b N : Nat) (f : Int → Option Value) (hN : ∀ ss x, (ss ++ [x]).Nodup → (∀ y ∈ ss ++ [x], f y ≠ none) → ss.length < N) {W3 : World} (hB : Lc 54 Bm [.map (some b)] W3) (hm : Mp b f W3) :
    SeqStopsK F n Try.prog 47 #[.pointer (some ⟨Bm, 0, none⟩)] (fun x : Int => #[.int .u8 x]) KeepsWalks (fun ss => Kys f ss) (fun _ => True) N W3 := by
  intro l J Jx W hW hJ _ hY h0
  exact keys1_in F n hF hro hn l Bm b N f hN J Jx hY W hJ ((hB.kp hW).at (j := 0) rfl) (hm.kp hW) h0
end Go.Proofs.Ytbnlenanfhggiaa
