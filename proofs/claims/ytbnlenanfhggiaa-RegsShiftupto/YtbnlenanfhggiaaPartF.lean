/- Texts that the proof of the law stands on: WS. -/
import Derived.Test.YtbnlenanfhggiaaPartE
/- RegsShift: the walk. -/
namespace Go.Proofs.Ytbnlenanfhggiaa
open Go.ChangeShapes Go.WideShapes Go.ChangeAt Go.RowKit Go.Maps Go.MapKept
set_option linter.unusedVariables false
set_option linter.unusedSimpArgs false
set_option maxRecDepth 100000
/-- What was deleted, so far: i of them. -/
def Shf (F : Rf) (l : List (Value × Rv)) (i : Nat) : Prop := F 48 = none ∧ ∀ k : Nat, 1 ≤ k → k ≤ 9 → F (48 + (k : Int)) = if k ≤ i then (l[i - k]?).map Prod.snd else none
theorem shf_cut {F : Rf} {l : List (Value × Rv)} {i : Nat} (h : Shf F l i) {o : Value × Rv} (ho : l[i]? = some o) (hne : o.2.ls ≠ []) (hz : szL o.2.ls ≤ 20000) :
    layE F 34 o.2 = 0 ∧ Shf (cutF F 34 o.2) l (i + 1) := by
  have hk : kwB 34 = true := by simp [kwB]
  have e : isR F 34 o.2 = o.2 := by unfold isR; rw [if_pos sm34, ownR_idem hne]
  have hE : layE F 34 o.2 = 0 := by unfold layE; rw [if_neg (by rw [hk]; simp), if_neg (by omega), e, if_pos hz]
  have hF : layF F 34 o.2 = setR (setR F 34 (some o.2)) 34 (some o.2) := by unfold layF; rw [if_pos ⟨hk, by omega, by rw [e]; exact hz⟩, e, sm34]
  have hat : ∀ y : Int, y ≠ 34 → layF F 34 o.2 y = F y := fun y hy => by rw [hF]; unfold setR; rw [if_neg hy, if_neg hy]
  refine ⟨hE, ?_, fun k k1 k9 => ?_⟩
  · unfold cutF; rw [if_pos ⟨hE, rfl⟩]
    unfold setR ageF ageC
    rw [if_neg (by omega), if_neg (by omega), hat 48 (by omega)]
    exact h.1
  · unfold cutF; rw [if_pos ⟨hE, rfl⟩]
    unfold setR ageF ageC
    by_cases q : k = 1
    · subst q
      rw [if_pos (by omega), if_pos (by omega), ownR_idem hne, Nat.add_sub_cancel, ho]
      rfl
    · rw [if_neg (by omega), if_pos (by omega), hat _ (by omega)]
      have h2 := h.2 (k - 1) (by omega) (by omega)
      have e1 : (48 : Int) + (k : Int) - 1 = 48 + ((k - 1 : Nat) : Int) := by omega
      rw [e1, h2]
      by_cases p : k - 1 ≤ i
      · rw [if_pos p, if_pos (by omega)]
        have : i + 1 - k = i - (k - 1) := by omega
        rw [this]
      · rw [if_neg p, if_neg (by omega)]
theorem shf_get {F : Rf} {l : List (Value × Rv)} {i k : Nat} (h : Shf F l i) (k1 : 1 ≤ k) (k9 : k ≤ 9) {o : Value × Rv} (hki : k ≤ i) (ho : l[i - k]? = some o) : getR F (48 + (k : Int)) = o.2 ∧ getE F (48 + (k : Int)) = 0 := by
  have hd : digB (48 + (k : Int)) = true := by unfold digB; exact bt_yes (by omega) (by omega)
  have hk : kwB (48 + (k : Int)) = true := by simp [kwB, hd]
  have hs : smI (48 + (k : Int)) = 48 + (k : Int) := by
    unfold smI
    have : grtB (48 + (k : Int)) = false := by
      cases q : grtB (48 + (k : Int)) with
      | false => rfl
      | true => have := grtB_iff.1 q; omega
    rw [this]; simp
  have := h.2 k k1 k9
  rw [if_pos hki, ho] at this
  unfold getR getE
  rw [if_pos hk, if_pos hk, hs, this]
  exact ⟨rfl, rfl⟩
theorem shf_none {F : Rf} {l : List (Value × Rv)} {i k : Nat} (h : Shf F l i) (k9 : k ≤ 9) (hki : k = 0 ∨ i < k) : getR F (48 + (k : Int)) = ⟨[], false⟩ ∧ getE F (48 + (k : Int)) = 111 := by
  have hd : digB (48 + (k : Int)) = true := by unfold digB; exact bt_yes (by omega) (by omega)
  have hk : kwB (48 + (k : Int)) = true := by simp [kwB, hd]
  have hs : smI (48 + (k : Int)) = 48 + (k : Int) := by
    unfold smI
    have : grtB (48 + (k : Int)) = false := by
      cases q : grtB (48 + (k : Int)) with
      | false => rfl
      | true => have := grtB_iff.1 q; omega
    rw [this]; simp
  have hf : F (48 + (k : Int)) = none := by
    by_cases q : k = 0
    · subst q; exact h.1
    · have := h.2 k (by omega) k9
      rw [if_neg (by omega)] at this; exact this
  unfold getR getE
  rw [if_pos hk, if_pos hk, hs, hf]
  exact ⟨rfl, rfl⟩
set_option maxHeartbeats 8000000 in
theorem shift_walk {Q : Nat → Prop} {vl : Value} {l : List (Value × Rv)} {w : World} (hl : RegL Q vl l w) (hok : ∀ o ∈ l, szL o.2.ls ≤ 1048576) :
    Calls Try.prog 7 #[vl] w fun e w' => e = .returned (.bool true) ∧ Kp w w' := by
  obtain ⟨la, lc, rfl, l1, l2, l3⟩ := hl
  obtain ⟨K, hK⟩ : ∃ K, l.length = K := ⟨_, rfl⟩
  rw [hK] at l1 ⊢
  have HL : Hid (∀ i, i < K → ∃ B off a n c o, la = some ⟨B, off, none⟩ ∧ w.cell? ⟨B, off + i * 2, none⟩ = some (.slice a n c) ∧ w.cell? ⟨B, off + i * 2 + 1, none⟩ = some (.bool (o : Value × Rv).2.wh) ∧ l[i]? = some o ∧ Sl Q (.slice a n c) o.2.ls w ∧ szL o.2.ls ≤ 1048576 ∧ n = o.2.ls.length ∧ n ≤ c ∧ c ≤ maxLen) := fun i hi => by
    obtain ⟨o, ho⟩ : ∃ o, l[i]? = some o := ⟨_, List.getElem?_eq_getElem (by omega)⟩
    obtain ⟨B, off, e, q1, q2, q5⟩ := l3 i o ho
    obtain ⟨a, c, e2, r1, r2, _⟩ := q5.form
    rw [e2] at q1 q5
    exact ⟨B, off, a, _, c, o, e, q1, q2, ho, q5, hok o (List.mem_of_getElem? ho), rfl, r1, r2⟩
  have HKN : Hid (∀ X, Calls Try.prog 10 #[] X fun e w' => e = .returned (.bool true) ∧ Kp X w') := rknown_any
  unfold maxLen at l2
  clear l3 hok hK
  by_cases h20 : 20 < K
  · have d1 : decide ((K : Int) > 20) = true := decide_eq_true (by omega)
    have d2 : decide ((20 : Int) < (K : Int)) = true := decide_eq_true (by omega)
    clear HL
    go_enter Try.func7, Try.ntmps7
    go_wp2_with fail
    refine Calls.mono (HKN.out _) ?_
    rintro e x3 ⟨rfl, k3⟩
    clear HKN
    go_wp2_with fail
    go_ret
    exact ⟨rfl, k3⟩
  have d1 : decide ((K : Int) > 20) = false := decide_eq_false (by omega)
  have d2 : decide ((20 : Int) < (K : Int)) = false := decide_eq_false (by omega)
  go_enter Try.func7, Try.ntmps7
  go_wp2_with fail
  refine Calls.mono (HKN.out _) ?_
  rintro e x3 ⟨rfl, k3⟩
  have HK3 : Hid (Kp w x3) := k3
  have HN : Hid (Calls Try.prog 11 #[] x3 fun e w' => ∃ t b, e = .returned (.pointer (some ⟨t, 0, none⟩)) ∧ Hid (Rs t b (fun _ => none) Anyw w' ∧ Kp x3 w' ∧ x3.heap.size ≤ b)) := by
    refine (gnew_any (P := Anyw) x3).mono ?_
    rintro e w' ⟨t, b, he, q1, q2, _, q3⟩
    exact ⟨t, b, he, q1, q2, q3⟩
  clear k3 HKN d1 d2
  go_wp2_with fail
  refine Calls.mono HN.out ?_
  rintro e x4 ⟨t, b, rfl, H4⟩
  have hq := eql_ptrR t
  have HK4 : Hid (Kp w x4 ∧ w.heap.size ≤ b) := ⟨kp_trans HK3.out H4.out.2.1, Nat.le_trans HK3.out.size H4.out.2.2⟩
  have HR4 : Hid (Rs t b (fun _ => none) Anyw x4) := H4.out.1
  clear HN HK3 H4
  go_wp2_with fail
  go_loopw [4] (fun v4 wr => ∃ (i : Nat) (F : Rf), i ≤ K ∧ v4 = .int .i64 i ∧ Hid (Rs t b F Anyw wr ∧ Fr (On b) x4 wr ∧ Shf F l i)) (fun v4 _ => K - (intOf v4).toNat)
  case atStart => exact ⟨0, _, Nat.zero_le _, rfl, HR4.out, Fr.refl _ _, rfl, fun k k1 k9 => by rw [if_neg (by omega)]⟩
  case round =>
    obtain ⟨i, F, hi, rfl, HI⟩ := hrel
    by_cases hlt : i < K
    · have g1 : decide ((i : Int) < (K : Int)) = true := decide_eq_true (by omega)
      have g2 : decide (i < K) = true := decide_eq_true (by omega)
      obtain ⟨B, off, oa, on, oc, o, rfl, e1, e2, ho, hsl, hoz, hon, honc, hocm⟩ := HL.out i hlt
      unfold maxLen at hocm
      have f1 := HR4.out.cell_off HI.out.2.1 (kp_cell HK4.out.1 e1)
      have f2 := HR4.out.cell_off HI.out.2.1 (kp_cell HK4.out.1 e2)
      have hs1 : Sl Q (.slice oa on oc) o.2.ls wr := HR4.out.sl_off (hsl.kp HK4.out.1) HI.out.2.1
      have HH : Hid (Calls Try.prog 9 #[.slice (some ⟨wr.heap.size, 0, none⟩) 1 1] (wr.alloc (.cells #[.int .u8 0, .int .u8 0, .slice oa on oc, .bool o.2.wh] 27)) fun e w' => ∃ hb, e = .returned (.bool hb) ∧ w' = wr.alloc (.cells #[.int .u8 0, .int .u8 0, .slice oa on oc, .bool o.2.wh] 27)) := heavy_any (ops_one hs1 rfl)
      have HO : Hid (l[i]? = some o ∧ Sl Q (.slice oa on oc) o.2.ls wr ∧ szL o.2.ls ≤ 1048576 ∧ on = o.2.ls.length) := ⟨ho, hs1, hoz, hon⟩
      have hon20 : on ≤ 1048576 := by have := szL_len o.2.ls; omega
      clear e1 e2 hsl hs1 hoz ho hon
      go_wp2_with fail
      refine Calls.mono HH.out ?_
      rintro e x5 ⟨hb, rfl, e5⟩
      have k5 : Kp wr x5 := by rw [e5]; exact kp_alloc _ _
      replace f1 := kp_cell k5 f1
      replace f2 := kp_cell k5 f2
      have HI5 : Hid (Rs t b F Anyw x5 ∧ Fr (On b) x4 x5 ∧ Shf F l i ∧ Sl Q (.slice oa on oc) o.2.ls x5) := ⟨HI.out.1.kp k5, HI.out.2.1.trans (Fr.of_below k5), HI.out.2.2, HO.out.2.1.kp k5⟩
      have HE : Hid (Kp w x5) := kp_fr HK4.out.1 HI5.out.2.1 HK4.out.2
      clear HH e5 k5 HI
      cases hb
      rotate_left
      · go_wp2_with fail
        go_ret
        exact ⟨rfl, HE.out⟩
      by_cases hn0 : on = 0
      · subst hn0
        go_wp2_with fail
        go_ret
        exact ⟨rfl, HE.out⟩
      have g3 : ((on : Int) == 0) = false := by simp; omega
      have g4 : (on == 0) = false := by simp; omega
      have HNE : Hid (o.2.ls ≠ []) := by intro e; have := HO.out.2.2.2; rw [e] at this; simp at this; omega
      go_wp2_with fail
      go_loopw [5, 6] (fun v5 v6 wq => ∃ (k n : Nat), k ≤ on ∧ v6 = .int .i64 k ∧ v5 = .int .i64 n ∧ n ≤ 1048576 ∧ x5 = wq ∧ Hid (szL (o.2.ls.take k) = n)) (fun _ v6 _ => on - (intOf v6).toNat)
      case atStart => exact ⟨0, 0, Nat.zero_le _, rfl, rfl, Nat.zero_le _, rfl, rfl⟩
      case round =>
        obtain ⟨k, n, hk, rfl, rfl, hn, rfl, HZ⟩ := hrel
        by_cases hkn : k < on
        · have dk : decide ((k : Int) < (on : Int)) = true := decide_eq_true (by omega)
          have dk2 : decide (k < on) = true := decide_eq_true (by omega)
          obtain ⟨s, hs⟩ : ∃ s, o.2.ls[k]? = some s := ⟨_, List.getElem?_eq_getElem (by have := HO.out.2.2.2; omega)⟩
          obtain ⟨g, og, rfl, _, hc⟩ := HI5.out.2.2.2.at_ hs
          have hst := szL_take o.2.ls hs
          have hsl := szL_le o.2.ls (k + 1)
          obtain ⟨L, hL⟩ : ∃ L, s.size = L := ⟨_, rfl⟩
          have hle : n + (L + 1) ≤ 1048576 := by have := HZ.out; have := HO.out.2.2.1; omega
          have HN2 : Hid (szL (o.2.ls.take (k + 1)) = n + (L + 1)) := by have := HZ.out; show _ = _; omega
          clear hs hst hsl HZ
          go_wp2_with fail
          go_roundw
          case rel => exact ⟨k + 1, n + (L + 1), by omega, by go_num, by go_num, by omega, trivial, HN2.out⟩
          case measure => simp only [intOf]; omega
        · obtain rfl : k = on := by omega
          have dk : decide ((k : Int) < (k : Int)) = false := by simp
          have hzn : szL o.2.ls = n := by have := HZ.out; rw [List.take_of_length_le (by have := HO.out.2.2.2; omega)] at this; exact this
          by_cases hbig : 20000 < n
          · have e1 : decide ((n : Int) > 20000) = true := decide_eq_true (by omega)
            have e2 : decide ((20000 : Int) < (n : Int)) = true := decide_eq_true (by omega)
            clear HZ hzn
            go_wp2_with fail
            go_ret
            exact ⟨rfl, HE.out⟩
          · have e1 : decide ((n : Int) > 20000) = false := decide_eq_false (by omega)
            have e2 : decide ((20000 : Int) < (n : Int)) = false := decide_eq_false (by omega)
            obtain ⟨hE0, hSh⟩ := shf_cut HI5.out.2.2.1 HO.out.1 HNE.out (by omega)
            have HC : Hid (Calls Try.prog 14 #[.pointer (some ⟨t, 0, none⟩), .int .u8 34, .agg #[.slice oa k oc, .bool o.2.wh]] x5 fun e w' => e = .returned (.int .u16 0) ∧ Hid (Rs t b (cutF F 34 o.2) Anyw w' ∧ Fr (On b) x4 w' ∧ Shf (cutF F 34 o.2) l (i + 1))) := by
              refine (cut_any HI5.out.1 (anyw _) (by omega) (by omega) HI5.out.2.2.2 (fit_sz HO.out.2.2.1)).mono ?_
              rintro e w' ⟨he, q1, q2⟩
              rw [hE0] at he
              exact ⟨he, q1, HI5.out.2.1.trans q2, hSh⟩
            clear HZ hzn hE0 hSh HI5
            go_wp2_with fail
            refine Calls.mono HC.out ?_
            rintro e x6 ⟨rfl, H6⟩
            clear HC f1 f2
            go_wp2_with fail
            go_roundw
            case rel => exact ⟨i + 1, _, by omega, by go_num, H6.out⟩
            case measure => simp only [intOf]; omega
    · obtain rfl : i = K := by omega
      have g1 : decide ((i : Int) < (i : Int)) = false := by simp
      clear hlt hi
      obtain ⟨wo, rfl⟩ : ∃ wo, wo = wr := ⟨_, rfl⟩
      go_wp2_with fail
      go_loopw [7] (fun v7 wr => ∃ (k : Nat), 1 ≤ k ∧ k ≤ 10 ∧ v7 = .int .i64 k ∧ Hid (Kp wo wr)) (fun v7 _ => 10 - (intOf v7).toNat)
      case atStart => exact ⟨1, by omega, by omega, rfl, Below.refl _ _⟩
      case round =>
        obtain ⟨k, k1, k10, rfl, HQ⟩ := hrel
        by_cases hk9 : k ≤ 9
        · have dk : decide ((k : Int) ≤ 9) = true := decide_eq_true (by omega)
          have hc1 : IntKind.u8.wrap (k : Int) = (k : Int) := by rw [IntKind.wrap_u8]; omega
          obtain ⟨nm, hnm⟩ : ∃ nm : Nat, 48 + k = nm := ⟨_, rfl⟩
          have hc2 : (48 : Int) + (k : Int) = (nm : Int) := by omega
          have hc3 : IntKind.u8.wrap ((48 : Int) + (k : Int)) = (nm : Int) := by rw [IntKind.wrap_u8]; omega
          have hc4 : (k : Int) % 256 = (k : Int) := by omega
          have hnb : nm < 256 := by omega
          by_cases hki : k ≤ i
          · obtain ⟨B, off, oa, on, oc, o, rfl, e1, e2, ho, hsl, hoz, hon, honc, hocm⟩ := HL.out (i - k) (by omega)
            obtain ⟨gR, gE⟩ := shf_get HI.out.2.2 k1 hk9 hki ho
            rw [hc2] at gR gE
            have HG : Hid _ := get_some (HI.out.1.kp HQ.out) (x := (nm : Int)) (by omega) (by omega) gR gE
            obtain ⟨j, hj⟩ : ∃ j : Nat, i - k = j := ⟨_, rfl⟩
            rw [hj] at e1 e2
            have f1 := kp_cell HQ.out (HR4.out.cell_off HI.out.2.1 (kp_cell HK4.out.1 e1))
            have f2 := kp_cell HQ.out (HR4.out.cell_off HI.out.2.1 (kp_cell HK4.out.1 e2))
            have hs1 : Sl Q (.slice oa on oc) o.2.ls wr := (HR4.out.sl_off (hsl.kp HK4.out.1) HI.out.2.1).kp HQ.out
            have HS1 : Hid (Sl Q (.slice oa on oc) o.2.ls wr) := hs1
            have hsub : (i : Int) - (k : Int) = (j : Int) := by omega
            have hji : j < i := by omega
            have hji2 : (j : Int) < (i : Int) := by omega
            have hwj : IntKind.i64.wrap (j : Int) = (j : Int) := by rw [IntKind.wrap_i64]; omega
            have dki : decide ((k : Int) ≤ (i : Int)) = true := decide_eq_true (by omega)
            clear hnm e1 e2 ho hsl hoz hon hs1 hj gR gE
            go_wp2_with fail
            refine Calls.mono HG.out ?_
            rintro e x7 ⟨a7, n7, c7, rfl, qn, hn7, hn7', H7⟩
            clear HG qn
            obtain ⟨W7, hW7⟩ : ∃ W7, x7.alloc (.cells #[.slice a7 n7 c7, .bool o.2.wh] 24) = W7 := ⟨_, rfl⟩
            have k7 : Kp wr W7 := by rw [← hW7]; exact kp_trans H7.out.2 (kp_alloc _ _)
            have b7 : Lc 24 x7.heap.size [.slice a7 n7 c7, .bool o.2.wh] W7.drew := by rw [← hW7]; exact (Lc.new x7 _ 24).kp (kp_drew _)
            have s7 : Sl Anyw (.slice a7 n7 c7) o.2.ls W7 := by
              have := ((Sl.of_row H7.out.1).mono (Q := Anyw) fun _ _ _ => trivial).kp (kp_alloc x7 (.cells #[.slice a7 n7 c7, .bool o.2.wh] 24))
              rw [hW7] at this; exact this
            have HSA : Hid (Calls Try.prog 22 #[.agg #[.slice a7 n7 c7, .bool o.2.wh], .agg #[.slice oa on oc, .bool o.2.wh]] W7.drew fun e w' => e = .returned (.bool true) ∧ Kp W7.drew w') := same_any (s7.kp (kp_drew _)) ((HS1.out.kp k7).kp (kp_drew _))
            have y1 := b7.at (j := 0) rfl
            have y2 := b7.at (j := 1) rfl
            have kd := kp_trans k7 (kp_drew W7)
            have y3 := kp_cell kd f1
            have y4 := kp_cell kd f2
            obtain ⟨b8, hb8⟩ : ∃ b8, x7.heap.size = b8 := ⟨_, rfl⟩
            rw [hb8] at y1 y2
            have HK7 : Hid (Kp wo W7.drew) := kp_trans HQ.out kd
            have HW : Hid (_ = W7) := hW7
            clear hW7 k7 b7 s7 H7 kd f1 f2 HS1
            go_upto_region 24 with fail
            rw [HW.out]
            clear HW hb8
            refine wp_region_noPanic ?_
            refine wp_region_held_drew (S := fun z => z.cell? ⟨b8, 0, none⟩ = some (.slice a7 n7 c7) ∧ z.cell? ⟨b8, 1, none⟩ = some (.bool o.2.wh) ∧ z.cell? ⟨B, off + j * 2, none⟩ = some (.slice oa on oc) ∧ z.cell? ⟨B, off + j * 2 + 1, none⟩ = some (.bool o.2.wh)) (by kernel_rfl) (⟨y1, y2, y3, y4⟩) (fun hHeld => ?_)
            refine takeAt 0 (some 88) ?_ rfl rfl (by kernel_rfl) (by kernel_rfl) (by kernel_rfl) (fun _ _ _ h => h) (Or.inl ⟨by rfl, ?_⟩) hHeld ?_
            rotate_left
            · intro w hSw
              go_simp <;> with_reducible rfl
            try simp only [Act.put, List.setIfInBounds_toArray, List.set_cons_zero, List.set_cons_succ]
            refine takeAt 1 (some 89) ?_ rfl rfl (by kernel_rfl) (by kernel_rfl) (by kernel_rfl) (fun _ _ _ h => h) (Or.inl ⟨by rfl, ?_⟩) hHeld ?_
            rotate_left
            · intro w hSw
              go_simp <;> with_reducible rfl
            try simp only [Act.put, List.setIfInBounds_toArray, List.set_cons_zero, List.set_cons_succ]
            refine takeAt 2 (some 90) ?_ rfl rfl (by kernel_rfl) (by kernel_rfl) (by kernel_rfl) (fun _ _ _ h => h) (Or.inl ⟨by rfl, ?_⟩) hHeld ?_
            rotate_left
            · intro w hSw
              go_simp <;> with_reducible rfl
            try simp only [Act.put, List.setIfInBounds_toArray, List.set_cons_zero, List.set_cons_succ]
            refine takeAt 3 (some 91) ?_ rfl rfl (by kernel_rfl) (by kernel_rfl) (by kernel_rfl) (fun _ _ _ h => h) (Or.inl ⟨by rfl, ?_⟩) hHeld ?_
            rotate_left
            · intro w hSw
              go_simp <;> with_reducible rfl
            try simp only [Act.put, List.setIfInBounds_toArray, List.set_cons_zero, List.set_cons_succ]
            refine takeAt 4 (some 92) ?_ rfl rfl (by kernel_rfl) (by kernel_rfl) (by kernel_rfl) (fun _ _ _ h => h) (Or.inl ⟨by rfl, ?_⟩) hHeld ?_
            rotate_left
            · intro w hSw
              go_simp <;> with_reducible rfl
            try simp only [Act.put, List.setIfInBounds_toArray, List.set_cons_zero, List.set_cons_succ]
            refine takeAt 5 (some 93) ?_ rfl rfl (by kernel_rfl) (by kernel_rfl) (by kernel_rfl) (fun _ _ _ h => h) (Or.inl ⟨by rfl, ?_⟩) hHeld ?_
            rotate_left
            · intro w hSw
              go_simp <;> with_reducible rfl
            try simp only [Act.put, List.setIfInBounds_toArray, List.set_cons_zero, List.set_cons_succ]
            refine takeAt 6 (some 94) ?_ rfl rfl (by kernel_rfl) (by kernel_rfl) (by kernel_rfl) (fun _ _ _ h => h) (Or.inl ⟨by rfl, ?_⟩) hHeld ?_
            rotate_left
            · intro w hSw
              go_simp <;> with_reducible rfl
            try simp only [Act.put, List.setIfInBounds_toArray, List.set_cons_zero, List.set_cons_succ]
            refine takeAt 7 (some 95) ?_ rfl rfl (by kernel_rfl) (by kernel_rfl) (by kernel_rfl) (fun _ _ _ h => h) (Or.inl ⟨by rfl, ?_⟩) hHeld ?_
            rotate_left
            · intro w hSw
              go_simp <;> with_reducible rfl
            try simp only [Act.put, List.setIfInBounds_toArray, List.set_cons_zero, List.set_cons_succ]
            refine takeAt 8 (some 96) ?_ rfl rfl (by kernel_rfl) (by kernel_rfl) (by kernel_rfl) (fun _ _ _ h => h) (Or.inl ⟨by rfl, ?_⟩) hHeld ?_
            rotate_left
            · intro w hSw
              go_simp <;> with_reducible rfl
            try simp only [Act.put, List.setIfInBounds_toArray, List.set_cons_zero, List.set_cons_succ]
            refine takeAt 9 (some 97) ?_ rfl rfl (by kernel_rfl) (by kernel_rfl) (by kernel_rfl) (fun _ _ _ h => h) (Or.inl ⟨by rfl, ?_⟩) hHeld ?_
            rotate_left
            · intro w hSw
              go_simp <;> with_reducible rfl
            try simp only [Act.put, List.setIfInBounds_toArray, List.set_cons_zero, List.set_cons_succ]
            refine takeAt 10 (some 98) ?_ rfl rfl (by kernel_rfl) (by kernel_rfl) (by kernel_rfl) (fun _ _ _ h => h) (Or.inl ⟨by rfl, ?_⟩) hHeld ?_
            rotate_left
            · intro w hSw
              go_simp <;> with_reducible rfl
            try simp only [Act.put, List.setIfInBounds_toArray, List.set_cons_zero, List.set_cons_succ]
            refine takeAt 11 (some 99) ?_ rfl rfl (by kernel_rfl) (by kernel_rfl) (by kernel_rfl) (fun _ _ _ h => h) (Or.inl ⟨by rfl, ?_⟩) hHeld ?_
            rotate_left
            · intro w hSw
              go_simp <;> with_reducible rfl
            try simp only [Act.put, List.setIfInBounds_toArray, List.set_cons_zero, List.set_cons_succ]
            refine takeAt 12 (some 100) ?_ rfl rfl (by kernel_rfl) (by kernel_rfl) (by kernel_rfl) (fun _ _ _ h => h) (Or.inl ⟨by rfl, ?_⟩) hHeld ?_
            rotate_left
            · intro w hSw
              go_simp <;> with_reducible rfl
            try simp only [Act.put, List.setIfInBounds_toArray, List.set_cons_zero, List.set_cons_succ]
            refine takeAt 13 (some 101) ?_ rfl rfl (by kernel_rfl) (by kernel_rfl) (by kernel_rfl) (fun _ _ _ h => h) (Or.inl ⟨by rfl, ?_⟩) hHeld ?_
            rotate_left
            · intro w hSw
              go_simp <;> with_reducible rfl
            try simp only [Act.put, List.setIfInBounds_toArray, List.set_cons_zero, List.set_cons_succ]
            refine takeAt 14 (some 102) ?_ rfl rfl (by kernel_rfl) (by kernel_rfl) (by kernel_rfl) (fun _ _ _ h => h) (Or.inl ⟨by rfl, ?_⟩) hHeld ?_
            rotate_left
            · intro w hSw
              go_simp <;> with_reducible rfl
            try simp only [Act.put, List.setIfInBounds_toArray, List.set_cons_zero, List.set_cons_succ]
            refine takeAt 15 (some 103) ?_ rfl rfl (by kernel_rfl) (by kernel_rfl) (by kernel_rfl) (fun _ _ _ h => h) (Or.inl ⟨by rfl, ?_⟩) hHeld ?_
            rotate_left
            · intro w hSw
              go_simp <;> with_reducible rfl
            try simp only [Act.put, List.setIfInBounds_toArray, List.set_cons_zero, List.set_cons_succ]
            refine takeAt 16 (some 104) ?_ rfl rfl (by kernel_rfl) (by kernel_rfl) (by kernel_rfl) (fun _ _ _ h => h) (Or.inl ⟨by rfl, ?_⟩) hHeld ?_
            rotate_left
            · intro w hSw
              go_simp <;> with_reducible rfl
            try simp only [Act.put, List.setIfInBounds_toArray, List.set_cons_zero, List.set_cons_succ]
            refine takeAt 17 (some 105) ?_ rfl rfl (by kernel_rfl) (by kernel_rfl) (by kernel_rfl) (fun _ _ _ h => h) (Or.inl ⟨by rfl, ?_⟩) hHeld ?_
            rotate_left
            · intro w hSw
              go_simp <;> with_reducible rfl
            try simp only [Act.put, List.setIfInBounds_toArray, List.set_cons_zero, List.set_cons_succ]
            refine takeAt 18 (some 106) ?_ rfl rfl (by kernel_rfl) (by kernel_rfl) (by kernel_rfl) (fun _ _ _ h => h) (Or.inl ⟨by rfl, ?_⟩) hHeld ?_
            rotate_left
            · intro w hSw
              go_simp <;> with_reducible rfl
            try simp only [Act.put, List.setIfInBounds_toArray, List.set_cons_zero, List.set_cons_succ]
            refine callAtG 19 107 22 (vals := #[.agg #[.slice a7 n7 c7, .bool o.2.wh], .agg #[.slice oa on oc, .bool o.2.wh]]) (by kernel_rfl) rfl rfl rfl (by rfl) (by simp [Act.eval]) Try.func22 (by kernel_rfl) (by kernel_rfl) ?_
            refine Calls.mono (HSA.out) ?_
            rintro e x8 ⟨rfl, k8⟩
            have HX : Hid (Kp wo x8) := kp_trans HK7.out k8
            have hS8 := And.intro (kp_cell k8 y1) (And.intro (kp_cell k8 y2) (And.intro (kp_cell k8 y3) (kp_cell k8 y4)))
            clear k8 HSA HK7
            refine ⟨_, rfl, hS8, fun hHeld => ?_⟩
            try simp only [Act.put, List.setIfInBounds_toArray, List.set_cons_zero, List.set_cons_succ]
            refine takeAt 20 (some 108) ?_ rfl rfl (by kernel_rfl) (by kernel_rfl) (by kernel_rfl) (fun _ _ _ h => h) (Or.inl ⟨by rfl, ?_⟩) hHeld ?_
            rotate_left
            · intro w hSw
              go_simp <;> with_reducible rfl
            try simp only [Act.put, List.setIfInBounds_toArray, List.set_cons_zero, List.set_cons_succ]
            refine takeAt 21 (some 109) ?_ rfl rfl (by kernel_rfl) (by kernel_rfl) (by kernel_rfl) (fun _ _ _ h => h) (Or.inl ⟨by rfl, ?_⟩) hHeld ?_
            rotate_left
            · intro w hSw
              go_simp <;> with_reducible rfl
            try simp only [Act.put, List.setIfInBounds_toArray, List.set_cons_zero, List.set_cons_succ]
            refine takeAt 22 (some 110) ?_ rfl rfl (by kernel_rfl) (by kernel_rfl) (by kernel_rfl) (fun _ _ _ h => h) (Or.inl ⟨by rfl, ?_⟩) hHeld ?_
            rotate_left
            · intro w hSw
              go_simp <;> with_reducible rfl
            try simp only [Act.put, List.setIfInBounds_toArray, List.set_cons_zero, List.set_cons_succ]
            refine wpAnyH_done (by kernel_rfl) ?_ _
            refine NoPanic.normal ?_
            clear y1 y2 y3 y4
            go_wp2_with fail
            go_roundw
            case rel => exact ⟨k + 1, by omega, by omega, by go_num, HX.out⟩
            case measure => simp only [intOf]; omega
          · obtain ⟨gR, gE⟩ := shf_none HI.out.2.2 hk9 (.inr (by omega))
            rw [hc2] at gR gE
            have HG : Hid _ := get_some (HI.out.1.kp HQ.out) (x := (nm : Int)) (by omega) (by omega) gR gE
            have dki : decide ((k : Int) ≤ (i : Int)) = false := decide_eq_false (by omega)
            clear hnm gR gE
            go_wp2_with fail
            refine Calls.mono HG.out ?_
            rintro e x7 ⟨a7, n7, c7, rfl, qn, hn7, hn7', H7⟩
            clear HG qn
            obtain ⟨W7, hW7⟩ : ∃ W7, x7.alloc (.cells #[.slice a7 n7 c7, .bool false] 24) = W7 := ⟨_, rfl⟩
            have k7 : Kp wr W7 := by rw [← hW7]; exact kp_trans H7.out.2 (kp_alloc _ _)
            have HX : Hid (Kp wo W7.drew) := kp_trans (kp_trans HQ.out k7) (kp_drew W7)
            have HW : Hid (_ = W7) := hW7
            clear hW7 k7 H7
            go_upto_region 24 with fail
            rw [HW.out]
            clear HW
            refine wp_region_noPanic ?_
            refine wp_region_held_drew (S := fun _ => True) (by kernel_rfl) (trivial) (fun hHeld => ?_)
            refine takeAt 0 (some 88) ?_ rfl rfl (by kernel_rfl) (by kernel_rfl) (by kernel_rfl) (fun _ _ _ h => h) (Or.inl ⟨by rfl, ?_⟩) hHeld ?_
            rotate_left
            · intro w hSw
              go_simp <;> with_reducible rfl
            try simp only [Act.put, List.setIfInBounds_toArray, List.set_cons_zero, List.set_cons_succ]
            refine takeAt 1 (some 89) ?_ rfl rfl (by kernel_rfl) (by kernel_rfl) (by kernel_rfl) (fun _ _ _ h => h) (Or.inl ⟨by rfl, ?_⟩) hHeld ?_
            rotate_left
            · intro w hSw
              go_simp <;> with_reducible rfl
            try simp only [Act.put, List.setIfInBounds_toArray, List.set_cons_zero, List.set_cons_succ]
            refine takeAt 2 (some 90) ?_ rfl rfl (by kernel_rfl) (by kernel_rfl) (by kernel_rfl) (fun _ _ _ h => h) (Or.inl ⟨by rfl, ?_⟩) hHeld ?_
            rotate_left
            · intro w hSw
              go_simp <;> with_reducible rfl
            try simp only [Act.put, List.setIfInBounds_toArray, List.set_cons_zero, List.set_cons_succ]
            refine takeAt 3 (some 91) ?_ rfl rfl (by kernel_rfl) (by kernel_rfl) (by kernel_rfl) (fun _ _ _ h => h) (Or.inl ⟨by rfl, ?_⟩) hHeld ?_
            rotate_left
            · intro w hSw
              go_simp <;> with_reducible rfl
            try simp only [Act.put, List.setIfInBounds_toArray, List.set_cons_zero, List.set_cons_succ]
            refine takeAt 4 (some 92) ?_ rfl rfl (by kernel_rfl) (by kernel_rfl) (by kernel_rfl) (fun _ _ _ h => h) (Or.inl ⟨by rfl, ?_⟩) hHeld ?_
            rotate_left
            · intro w hSw
              go_simp <;> with_reducible rfl
            try simp only [Act.put, List.setIfInBounds_toArray, List.set_cons_zero, List.set_cons_succ]
            refine takeAt 5 (some 93) ?_ rfl rfl (by kernel_rfl) (by kernel_rfl) (by kernel_rfl) (fun _ _ _ h => h) (Or.inl ⟨by rfl, ?_⟩) hHeld ?_
            rotate_left
            · intro w hSw
              go_simp <;> with_reducible rfl
            try simp only [Act.put, List.setIfInBounds_toArray, List.set_cons_zero, List.set_cons_succ]
            refine takeAt 6 (some 94) ?_ rfl rfl (by kernel_rfl) (by kernel_rfl) (by kernel_rfl) (fun _ _ _ h => h) (Or.inl ⟨by rfl, ?_⟩) hHeld ?_
            rotate_left
            · intro w hSw
              go_simp <;> with_reducible rfl
            try simp only [Act.put, List.setIfInBounds_toArray, List.set_cons_zero, List.set_cons_succ]
            refine takeAt 7 (some 95) ?_ rfl rfl (by kernel_rfl) (by kernel_rfl) (by kernel_rfl) (fun _ _ _ h => h) (Or.inl ⟨by rfl, ?_⟩) hHeld ?_
            rotate_left
            · intro w hSw
              go_simp <;> with_reducible rfl
            try simp only [Act.put, List.setIfInBounds_toArray, List.set_cons_zero, List.set_cons_succ]
            refine takeAt 8 (some 96) ?_ rfl rfl (by kernel_rfl) (by kernel_rfl) (by kernel_rfl) (fun _ _ _ h => h) (Or.inl ⟨by rfl, ?_⟩) hHeld ?_
            rotate_left
            · intro w hSw
              go_simp <;> with_reducible rfl
            try simp only [Act.put, List.setIfInBounds_toArray, List.set_cons_zero, List.set_cons_succ]
            refine takeAt 9 (some 97) ?_ rfl rfl (by kernel_rfl) (by kernel_rfl) (by kernel_rfl) (fun _ _ _ h => h) (Or.inl ⟨by rfl, ?_⟩) hHeld ?_
            rotate_left
            · intro w hSw
              go_simp <;> with_reducible rfl
            try simp only [Act.put, List.setIfInBounds_toArray, List.set_cons_zero, List.set_cons_succ]
            refine takeAt 10 (some 98) ?_ rfl rfl (by kernel_rfl) (by kernel_rfl) (by kernel_rfl) (fun _ _ _ h => h) (Or.inl ⟨by rfl, ?_⟩) hHeld ?_
            rotate_left
            · intro w hSw
              go_simp <;> with_reducible rfl
            try simp only [Act.put, List.setIfInBounds_toArray, List.set_cons_zero, List.set_cons_succ]
            refine takeAt 11 (some 99) undef rfl rfl (by kernel_rfl) (by kernel_rfl) (by kernel_rfl) (fun _ _ _ h => h) (Or.inr ⟨by rfl, rfl⟩) hHeld ?_
            try simp only [Act.put, List.setIfInBounds_toArray, List.set_cons_zero, List.set_cons_succ]
            refine takeAt 12 (some 100) undef rfl rfl (by kernel_rfl) (by kernel_rfl) (by kernel_rfl) (fun _ _ _ h => h) (Or.inr ⟨by rfl, rfl⟩) hHeld ?_
            try simp only [Act.put, List.setIfInBounds_toArray, List.set_cons_zero, List.set_cons_succ]
            refine takeAt 13 (some 101) undef rfl rfl (by kernel_rfl) (by kernel_rfl) (by kernel_rfl) (fun _ _ _ h => h) (Or.inr ⟨by rfl, rfl⟩) hHeld ?_
            try simp only [Act.put, List.setIfInBounds_toArray, List.set_cons_zero, List.set_cons_succ]
            refine takeAt 14 (some 102) undef rfl rfl (by kernel_rfl) (by kernel_rfl) (by kernel_rfl) (fun _ _ _ h => h) (Or.inr ⟨by rfl, rfl⟩) hHeld ?_
            try simp only [Act.put, List.setIfInBounds_toArray, List.set_cons_zero, List.set_cons_succ]
            refine takeAt 15 (some 103) undef rfl rfl (by kernel_rfl) (by kernel_rfl) (by kernel_rfl) (fun _ _ _ h => h) (Or.inr ⟨by rfl, rfl⟩) hHeld ?_
            try simp only [Act.put, List.setIfInBounds_toArray, List.set_cons_zero, List.set_cons_succ]
            refine takeAt 16 (some 104) undef rfl rfl (by kernel_rfl) (by kernel_rfl) (by kernel_rfl) (fun _ _ _ h => h) (Or.inr ⟨by rfl, rfl⟩) hHeld ?_
            try simp only [Act.put, List.setIfInBounds_toArray, List.set_cons_zero, List.set_cons_succ]
            refine takeAt 17 (some 105) undef rfl rfl (by kernel_rfl) (by kernel_rfl) (by kernel_rfl) (fun _ _ _ h => h) (Or.inr ⟨by rfl, rfl⟩) hHeld ?_
            try simp only [Act.put, List.setIfInBounds_toArray, List.set_cons_zero, List.set_cons_succ]
            refine takeAt 18 (some 106) undef rfl rfl (by kernel_rfl) (by kernel_rfl) (by kernel_rfl) (fun _ _ _ h => h) (Or.inr ⟨by rfl, rfl⟩) hHeld ?_
            try simp only [Act.put, List.setIfInBounds_toArray, List.set_cons_zero, List.set_cons_succ]
            refine takeAt 19 (some 107) undef rfl rfl (by kernel_rfl) (by kernel_rfl) (by kernel_rfl) (fun _ _ _ h => h) (Or.inr ⟨by rfl, rfl⟩) hHeld ?_
            try simp only [Act.put, List.setIfInBounds_toArray, List.set_cons_zero, List.set_cons_succ]
            refine takeAt 20 (some 108) undef rfl rfl (by kernel_rfl) (by kernel_rfl) (by kernel_rfl) (fun _ _ _ h => h) (Or.inr ⟨by rfl, rfl⟩) hHeld ?_
            try simp only [Act.put, List.setIfInBounds_toArray, List.set_cons_zero, List.set_cons_succ]
            refine takeAt 21 (some 109) ?_ rfl rfl (by kernel_rfl) (by kernel_rfl) (by kernel_rfl) (fun _ _ _ h => h) (Or.inl ⟨by rfl, ?_⟩) hHeld ?_
            rotate_left
            · intro w hSw
              go_simp <;> with_reducible rfl
            try simp only [Act.put, List.setIfInBounds_toArray, List.set_cons_zero, List.set_cons_succ]
            refine takeAt 22 (some 110) ?_ rfl rfl (by kernel_rfl) (by kernel_rfl) (by kernel_rfl) (fun _ _ _ h => h) (Or.inl ⟨by rfl, ?_⟩) hHeld ?_
            rotate_left
            · intro w hSw
              go_simp <;> with_reducible rfl
            try simp only [Act.put, List.setIfInBounds_toArray, List.set_cons_zero, List.set_cons_succ]
            refine wpAnyH_done (by kernel_rfl) ?_ _
            refine NoPanic.normal ?_
            go_wp2_with fail
            go_roundw
            case rel => exact ⟨k + 1, by omega, by omega, by go_num, HX.out⟩
            case measure => simp only [intOf]; omega
        · obtain rfl : k = 10 := by omega
          obtain ⟨gR, gE⟩ := shf_none (k := 0) HI.out.2.2 (by omega) (.inl rfl)
          have HG : Hid _ := get_some (HI.out.1.kp HQ.out) (x := 48) (by omega) (by omega) gR gE
          have HE : Hid (Kp w wr) := kp_trans (kp_fr HK4.out.1 HI.out.2.1 HK4.out.2) HQ.out
          clear gR gE HI HL HR4 HK4 HQ
          go_wp2_with fail
          refine Calls.mono HG.out ?_
          rintro e x7 ⟨a7, n7, c7, rfl, qn, hn7, hn7', H7⟩
          have HE2 : Hid (∀ o, Kp w (x7.alloc o)) := fun o => kp_more (kp_trans HE.out H7.out.2) o
          clear HG qn H7 HE
          go_wp2_with fail
          go_ret
          exact ⟨rfl, HE2.out _⟩
end Go.Proofs.Ytbnlenanfhggiaa
