/- Texts that the proof of the law stands on: WO, WD. -/
import Derived.Test.YtbnlenanfhggiaaPartE
import Derived.Test.YtbnlenanfhggiaaPartF
import Derived.Deep.CutBlock
/- RegsNowhere: the walk. -/
namespace Go.Proofs.Ytbnlenanfhggiaa
open Go.ChangeShapes Go.WideShapes Go.ChangeAt Go.RowKit Go.Maps Go.MapKept
set_option linter.unusedVariables false
set_option linter.unusedSimpArgs false
set_option maxRecDepth 100000
theorem nowhere_same (F : Rf) (r : Rv) (hd : ∀ x q, F x = some q → nmB x = true) : layE F 95 r = 0 ∧ yankF F 95 r = F ∧ cutF F 95 r = F ∧ getE F 95 = 111 ∧ getR F 95 = ⟨[], false⟩ := by
  have hk : kwB 95 = true := by simp [kwB]
  have hl : layE F 95 r = 0 := by unfold layE; rw [if_neg (by rw [hk]; simp), if_pos rfl]
  have hF : layF F 95 r = F := by unfold layF; rw [if_neg fun e => e.2.1 rfl]
  have hs : smI 95 = 95 := by simp [smI, grtB, bt]
  have hn : F 95 = none := by
    cases q : F 95 with
    | none => rfl
    | some z => have := hd 95 z q; simp [nmB, digB, smlB, bt] at this
  refine ⟨hl, ?_, ?_, ?_, ?_⟩
  · unfold yankF; rw [if_neg fun e => absurd e.2 (by omega), hF]
  · unfold cutF; rw [if_neg fun e => absurd e.2 (by omega), hF]
  · unfold getE; rw [if_pos hk, hs, hn]; rfl
  · unfold getR; rw [if_pos hk, hs, hn]; rfl
set_option maxHeartbeats 8000000 in
theorem nowhere_walk {Q : Nat → Prop} {vl : Value} {l : List Op11} {w : World} (hl : OpsL Q vl l w) (hok : ∀ o ∈ l, o.kd < 256 ∧ o.nm < 256 ∧ szL o.r.ls ≤ 1048576) (hln : l.length ≤ 1048576) {v : Value} {r : Rv} (hv : Sl Q v r.ls w) (hz : szL r.ls ≤ 1048576) :
    Calls Try.prog 8 #[vl, .agg #[v, .bool r.wh]] w fun e w' => e = .returned (.bool true) ∧ Kp w w' := by
  obtain ⟨a, c, rfl, gr1, gr2, _⟩ := hv.form
  have HL0 : Hid (OpsL Q vl l w) := hl
  obtain ⟨la, lc, rfl, l1, l2, l3⟩ := hl
  obtain ⟨N, hN⟩ : ∃ N, r.ls.length = N := ⟨_, rfl⟩
  obtain ⟨K, hK⟩ : ∃ K, l.length = K := ⟨_, rfl⟩
  rw [hN] at hv gr1 ⊢
  rw [hK] at HL0 l1 hln ⊢
  have HL : Hid (∀ i, i < K → ∃ B off nm a n c o, la = some ⟨B, off, none⟩ ∧ w.cell? ⟨B, off + i * 4 + 1, none⟩ = some (.int .u8 ((nm : Nat) : Int)) ∧ w.cell? ⟨B, off + i * 4 + 2, none⟩ = some (.slice a n c) ∧ w.cell? ⟨B, off + i * 4 + 3, none⟩ = some (.bool o.wh) ∧ nm < 256 ∧ Sl Q (.slice a n c) (o : Rv).ls w ∧ szL o.ls ≤ 1048576) := fun i hi => by
    obtain ⟨o, ho⟩ : ∃ o, l[i]? = some o := ⟨_, List.getElem?_eq_getElem (by omega)⟩
    obtain ⟨B, off, e, q1, q2, q3, q4, q5⟩ := l3 i o ho
    obtain ⟨a, c, e2, r1, r2, _⟩ := q5.form
    rw [e2] at q3 q5
    have := hok o (List.mem_of_getElem? ho)
    exact ⟨B, off, o.nm, a, _, c, o.r, e, q2, q3, q4, this.2.1, q5, this.2.2⟩
  obtain ⟨W1, hW1⟩ : ∃ W1, w.alloc (.cells #[.slice a N c, .bool r.wh] 24) = W1 := ⟨_, rfl⟩
  have k1 : Kp w W1 := by rw [← hW1]; exact kp_alloc _ _
  have b5 : Lc 24 w.heap.size [.slice a N c, .bool r.wh] W1 := by rw [← hW1]; exact Lc.new w _ _
  have hz1 : W1.heap.size = w.heap.size + 1 := by rw [← hW1, alloc_size]
  have HH0 : Hid (Calls Try.prog 9 #[.slice la K lc] W1 fun e w' => ∃ hb, e = .returned (.bool hb) ∧ w' = W1) := heavy_any (HL0.out.kp k1)
  have HH : Hid (Calls Try.prog 9 #[.slice (some ⟨w.heap.size + 1, 0, none⟩) 1 1] (W1.alloc (.cells #[.int .u8 0, .int .u8 0, .slice a N c, .bool r.wh] 27)) fun e w' => ∃ hb, e = .returned (.bool hb) ∧ w' = W1.alloc (.cells #[.int .u8 0, .int .u8 0, .slice a N c, .bool r.wh] 27)) := heavy_any (ops_one (hv.kp k1) hz1)
  have HB : Hid (Kp w W1 ∧ Lc 24 w.heap.size [.slice a N c, .bool r.wh] W1 ∧ Sl Q (.slice a N c) r.ls w ∧ r.ls.length = N ∧ szL r.ls ≤ 1048576) := ⟨k1, b5, hv, hN, hz⟩
  have u1 := b5.at (j := 0) rfl
  have u2 := b5.at (j := 1) rfl
  have HW : Hid (_ = W1) := hW1
  have HKN : Hid (∀ X, Calls Try.prog 10 #[] X fun e w' => e = .returned (.bool true) ∧ Kp X w') := rknown_any
  unfold maxLen at l2 gr2
  clear hv hz hN hK hW1 k1 b5 HL0 l3 hok
  go_enter Try.func8, Try.ntmps8
  go_upto_region 1 with fail
  rw [HW.out]
  clear HW
  go_wp2_with fail
  refine Calls.mono HH0.out ?_
  rintro e x0 ⟨hb0, rfl, e0⟩
  rw [e0]
  clear e0 HH0
  cases hb0
  rotate_left
  · clear HH
    go_wp2_with fail
    refine Calls.mono (HKN.out _) ?_
    rintro e x3 ⟨rfl, k3⟩
    have HE : Hid (Kp w x3) := kp_trans HB.out.1 k3
    clear k3 HKN
    go_wp2_with fail
    go_ret
    exact ⟨rfl, HE.out⟩
  go_wp2_with fail
  refine Calls.mono HH.out ?_
  rintro e x2 ⟨hb, rfl, e2⟩
  have k2 : Kp W1 x2 := by rw [e2]; exact kp_alloc _ _
  have HK2 : Hid (Kp w x2 ∧ Kp W1 x2) := ⟨kp_trans HB.out.1 k2, k2⟩
  clear e2 k2 HH hz1 u1 u2
  cases hb
  rotate_left
  · go_wp2_with fail
    refine Calls.mono (HKN.out _) ?_
    rintro e x3 ⟨rfl, k3⟩
    have HE : Hid (Kp w x3) := kp_trans HK2.out.1 k3
    clear HK2 k3 HKN
    go_wp2_with fail
    go_ret
    exact ⟨rfl, HE.out⟩
  go_wp2_with fail
  refine Calls.mono (HKN.out _) ?_
  rintro e x3 ⟨rfl, k3⟩
  have HK3 : Hid (Kp w x3 ∧ Kp W1 x3) := ⟨kp_trans HK2.out.1 k3, kp_trans HK2.out.2 k3⟩
  have HN : Hid (Calls Try.prog 11 #[] x3 fun e w' => ∃ t b, e = .returned (.pointer (some ⟨t, 0, none⟩)) ∧ Hid (Rs t b (fun _ => none) Anyw w' ∧ Kp x3 w' ∧ x3.heap.size ≤ b)) := by
    refine (gnew_any (P := Anyw) x3).mono ?_
    rintro e w' ⟨t, b, he, q1, q2, _, q3⟩
    exact ⟨t, b, he, q1, q2, q3⟩
  clear k3 HK2 HKN
  go_wp2_with fail
  refine Calls.mono HN.out ?_
  rintro e x4 ⟨t, b, rfl, H4⟩
  have hq := eql_ptrR t
  have HN2 : Hid (Calls Try.prog 17 #[] x4 fun e w' => ∃ t2, e = .returned (.pointer (some ⟨t2, 0, none⟩)) ∧ Hid (Rr t2 (fun _ => none) Anyw w' ∧ Kp x4 w' ∧ x4.heap.size ≤ t2)) := by
    refine (rnew_any Anyw x4).mono ?_
    rintro e w' ⟨t2, he, q1, q2, q3⟩
    exact ⟨t2, he, q1, q2, q3⟩
  clear HN
  go_wp2_with fail
  refine Calls.mono HN2.out ?_
  rintro e x5 ⟨t2, rfl, H5⟩
  have H0 : Hid (Rs t b (fun _ => none) Anyw x5 ∧ Rr t2 (fun _ => none) Anyw x5 ∧ Kp w x5 ∧ Lc 24 w.heap.size [.slice a N c, .bool r.wh] x5) := ⟨H4.out.1.kp H5.out.2.1, H5.out.1, kp_trans (kp_trans HK3.out.1 H4.out.2.1) H5.out.2.1, HB.out.2.1.kp (kp_trans (kp_trans HK3.out.2 H4.out.2.1) H5.out.2.1)⟩
  have HTB : Hid (w.heap.size ≤ b ∧ w.heap.size ≤ t2) := ⟨Nat.le_trans HK3.out.1.size H4.out.2.2, Nat.le_trans (kp_trans HK3.out.1 H4.out.2.1).size H5.out.2.2⟩
  have HSV : Hid (Sl Q (.slice a N c) r.ls w ∧ szL r.ls ≤ 1048576) := ⟨HB.out.2.2.1, HB.out.2.2.2.2⟩
  clear HN2 HK3 H4 H5 HB
  go_wp2_with fail
  go_loopw [7] (fun v7 wr => ∃ (i : Nat) (F : Rf), i ≤ K ∧ v7 = .int .i64 i ∧ Hid (Rs t b F Anyw wr ∧ Rr t2 F Anyw wr ∧ Kp w wr ∧ Lc 24 w.heap.size [.slice a N c, .bool r.wh] wr)) (fun v7 _ => K - (intOf v7).toNat)
  case atStart => exact ⟨0, _, Nat.zero_le _, rfl, H0.out⟩
  case round =>
    obtain ⟨i, F, hi, rfl, HI⟩ := hrel
    clear H0
    by_cases hlt : i < K
    · have g1 : decide ((i : Int) < (K : Int)) = true := decide_eq_true (by omega)
      have g2 : decide (i < K) = true := decide_eq_true (by omega)
      obtain ⟨B, off, nm, oa, on, oc, o, rfl, e1, e2, e3, hnm, hsl, hoz⟩ := HL.out i hlt
      have kd := kp_trans HI.out.2.2.1 (kp_drew wr)
      have y1 := kp_cell kd e1
      have y2 := kp_cell kd e2
      have y3 := kp_cell kd e3
      have HS : Hid (Calls Try.prog 12 #[.pointer (some ⟨t, 0, none⟩), .int .u8 (nm : Int), .agg #[.slice oa on oc, .bool o.wh]] wr.drew fun e w' => ∃ E, e = .returned (.int .u16 E) ∧ Hid (Rs t b (yankF F (nm : Int) o) Anyw w' ∧ Rr t2 F Anyw w' ∧ Kp w w' ∧ Lc 24 w.heap.size [.slice a N c, .bool r.wh] w')) := by
        have hR := HI.out.1.kp (kp_drew wr)
        refine (yank_any hR (anyw _) (by omega) (by omega) (hsl.kp kd) (fit_sz hoz)).mono ?_
        rintro e w' ⟨he, q1, q2⟩
        exact ⟨_, he, q1, hR.rr (HI.out.2.1.kp (kp_drew wr)) q2, kp_fr kd q2 HTB.out.1, hR.box_off (HI.out.2.2.2.kp (kp_drew wr)) q2⟩
      have HE : Hid (w.cell? ⟨B, off + i * 4 + 1, none⟩ = some (.int .u8 ((nm : Nat) : Int)) ∧ w.cell? ⟨B, off + i * 4 + 2, none⟩ = some (.slice oa on oc) ∧ w.cell? ⟨B, off + i * 4 + 3, none⟩ = some (.bool o.wh) ∧ Sl Q (.slice oa on oc) o.ls w ∧ szL o.ls ≤ 1048576) := ⟨e1, e2, e3, hsl, hoz⟩
      clear HI e1 e2 e3 hsl hoz kd
      go_upto_region 10 with fail
      have HEX : Hid _ := And.intro HE.out.1 (And.intro HE.out.2.1 HE.out.2.2.1)
      refine wp_region_noPanic ?_
      refine wp_region_held_drew (S := fun z => z.cell? ⟨B, off + i * 4 + 1, none⟩ = some (.int .u8 ((nm : Nat) : Int)) ∧ z.cell? ⟨B, off + i * 4 + 2, none⟩ = some (.slice oa on oc) ∧ z.cell? ⟨B, off + i * 4 + 3, none⟩ = some (.bool o.wh)) (by kernel_rfl) (⟨y1, y2, y3⟩) (fun hHeld => ?_)
      refine takeAt 0 (some 35) ?_ rfl rfl (by kernel_rfl) (by kernel_rfl) (by kernel_rfl) (fun _ _ _ h => h) (Or.inl ⟨by rfl, ?_⟩) hHeld ?_
      rotate_left
      · intro w hSw
        go_simp <;> with_reducible rfl
      try simp only [Act.put, List.setIfInBounds_toArray, List.set_cons_zero, List.set_cons_succ]
      refine takeAt 1 (some 36) ?_ rfl rfl (by kernel_rfl) (by kernel_rfl) (by kernel_rfl) (fun _ _ _ h => h) (Or.inl ⟨by rfl, ?_⟩) hHeld ?_
      rotate_left
      · intro w hSw
        go_simp <;> with_reducible rfl
      try simp only [Act.put, List.setIfInBounds_toArray, List.set_cons_zero, List.set_cons_succ]
      refine takeAt 2 (some 37) ?_ rfl rfl (by kernel_rfl) (by kernel_rfl) (by kernel_rfl) (fun _ _ _ h => h) (Or.inl ⟨by rfl, ?_⟩) hHeld ?_
      rotate_left
      · intro w hSw
        go_simp <;> with_reducible rfl
      try simp only [Act.put, List.setIfInBounds_toArray, List.set_cons_zero, List.set_cons_succ]
      refine takeAt 3 (some 38) ?_ rfl rfl (by kernel_rfl) (by kernel_rfl) (by kernel_rfl) (fun _ _ _ h => h) (Or.inl ⟨by rfl, ?_⟩) hHeld ?_
      rotate_left
      · intro w hSw
        go_simp <;> with_reducible rfl
      try simp only [Act.put, List.setIfInBounds_toArray, List.set_cons_zero, List.set_cons_succ]
      refine takeAt 4 (some 39) ?_ rfl rfl (by kernel_rfl) (by kernel_rfl) (by kernel_rfl) (fun _ _ _ h => h) (Or.inl ⟨by rfl, ?_⟩) hHeld ?_
      rotate_left
      · intro w hSw
        go_simp <;> with_reducible rfl
      try simp only [Act.put, List.setIfInBounds_toArray, List.set_cons_zero, List.set_cons_succ]
      refine takeAt 5 (some 40) ?_ rfl rfl (by kernel_rfl) (by kernel_rfl) (by kernel_rfl) (fun _ _ _ h => h) (Or.inl ⟨by rfl, ?_⟩) hHeld ?_
      rotate_left
      · intro w hSw
        go_simp <;> with_reducible rfl
      try simp only [Act.put, List.setIfInBounds_toArray, List.set_cons_zero, List.set_cons_succ]
      refine takeAt 6 (some 41) ?_ rfl rfl (by kernel_rfl) (by kernel_rfl) (by kernel_rfl) (fun _ _ _ h => h) (Or.inl ⟨by rfl, ?_⟩) hHeld ?_
      rotate_left
      · intro w hSw
        go_simp <;> with_reducible rfl
      try simp only [Act.put, List.setIfInBounds_toArray, List.set_cons_zero, List.set_cons_succ]
      refine takeAt 7 (some 42) ?_ rfl rfl (by kernel_rfl) (by kernel_rfl) (by kernel_rfl) (fun _ _ _ h => h) (Or.inl ⟨by rfl, ?_⟩) hHeld ?_
      rotate_left
      · intro w hSw
        go_simp <;> with_reducible rfl
      try simp only [Act.put, List.setIfInBounds_toArray, List.set_cons_zero, List.set_cons_succ]
      refine takeAt 8 (some 43) ?_ rfl rfl (by kernel_rfl) (by kernel_rfl) (by kernel_rfl) (fun _ _ _ h => h) (Or.inl ⟨by rfl, ?_⟩) hHeld ?_
      rotate_left
      · intro w hSw
        go_simp <;> with_reducible rfl
      try simp only [Act.put, List.setIfInBounds_toArray, List.set_cons_zero, List.set_cons_succ]
      refine takeAt 9 (some 44) ?_ rfl rfl (by kernel_rfl) (by kernel_rfl) (by kernel_rfl) (fun _ _ _ h => h) (Or.inl ⟨by rfl, ?_⟩) hHeld ?_
      rotate_left
      · intro w hSw
        go_simp <;> with_reducible rfl
      try simp only [Act.put, List.setIfInBounds_toArray, List.set_cons_zero, List.set_cons_succ]
      refine takeAt 10 (some 45) ?_ rfl rfl (by kernel_rfl) (by kernel_rfl) (by kernel_rfl) (fun _ _ _ h => h) (Or.inl ⟨by rfl, ?_⟩) hHeld ?_
      rotate_left
      · intro w hSw
        go_simp <;> with_reducible rfl
      try simp only [Act.put, List.setIfInBounds_toArray, List.set_cons_zero, List.set_cons_succ]
      refine callAt 11 46 12 (vals := #[.pointer (some ⟨t, 0, none⟩), .int .u8 (nm : Int), .agg #[.slice oa on oc, .bool o.wh]]) (by kernel_rfl) rfl rfl rfl rfl (by simp [Act.eval]) Try.func12 (by kernel_rfl) (by kernel_rfl) ?_
      refine Calls.mono (HS.out) ?_
      rintro e x6 ⟨E6, rfl, H6⟩
      have hSS := And.intro (kp_cell H6.out.2.2.1 HEX.out.1) (And.intro (kp_cell H6.out.2.2.1 HEX.out.2.1) (kp_cell H6.out.2.2.1 HEX.out.2.2))
      clear HS
      refine ⟨_, rfl, hSS, fun hHeld => ?_⟩
      try simp only [Act.put, List.setIfInBounds_toArray, List.set_cons_zero, List.set_cons_succ]
      refine wpAnyH_done (by kernel_rfl) ?_ _
      refine NoPanic.normal ?_
      clear y1 y2 y3
      have kd := kp_trans H6.out.2.2.1 (kp_drew x6)
      have z1 := kp_cell kd HE.out.1
      have z2 := kp_cell kd HE.out.2.1
      have z3 := kp_cell kd HE.out.2.2.1
      have HS2 : Hid (Calls Try.prog 24 #[.pointer (some ⟨t2, 0, none⟩), .int .u8 (nm : Int), .agg #[.slice oa on oc, .bool o.wh]] x6.drew fun e w' => ∃ E, e = .returned (.int .i64 E) ∧ Hid (Rs t b (yankF F (nm : Int) o) Anyw w' ∧ Rr t2 (yankF F (nm : Int) o) Anyw w' ∧ Kp w w' ∧ Lc 24 w.heap.size [.slice a N c, .bool r.wh] w')) := by
        have hR := H6.out.2.1.kp (kp_drew x6)
        refine (ryank_any hR (anyw _) hnm (HE.out.2.2.2.1.kp kd) HE.out.2.2.2.2).mono ?_
        rintro e w' ⟨he, q1, q2⟩
        exact ⟨_, he, hR.rs (H6.out.1.kp (kp_drew x6)) q2, q1, kp_fr kd q2 HTB.out.2, hR.box_off (H6.out.2.2.2.kp (kp_drew x6)) (by decide) q2⟩
      clear H6 HE kd
      go_upto_region 11 with fail
      refine wp_region_noPanic ?_
      refine wp_region_held_drew (S := fun z => z.cell? ⟨B, off + i * 4 + 1, none⟩ = some (.int .u8 ((nm : Nat) : Int)) ∧ z.cell? ⟨B, off + i * 4 + 2, none⟩ = some (.slice oa on oc) ∧ z.cell? ⟨B, off + i * 4 + 3, none⟩ = some (.bool o.wh)) (by kernel_rfl) (⟨z1, z2, z3⟩) (fun hHeld => ?_)
      refine takeAt 0 (some 47) ?_ rfl rfl (by kernel_rfl) (by kernel_rfl) (by kernel_rfl) (fun _ _ _ h => h) (Or.inl ⟨by rfl, ?_⟩) hHeld ?_
      rotate_left
      · intro w hSw
        go_simp <;> with_reducible rfl
      try simp only [Act.put, List.setIfInBounds_toArray, List.set_cons_zero, List.set_cons_succ]
      refine takeAt 1 (some 48) ?_ rfl rfl (by kernel_rfl) (by kernel_rfl) (by kernel_rfl) (fun _ _ _ h => h) (Or.inl ⟨by rfl, ?_⟩) hHeld ?_
      rotate_left
      · intro w hSw
        go_simp <;> with_reducible rfl
      try simp only [Act.put, List.setIfInBounds_toArray, List.set_cons_zero, List.set_cons_succ]
      refine takeAt 2 (some 49) ?_ rfl rfl (by kernel_rfl) (by kernel_rfl) (by kernel_rfl) (fun _ _ _ h => h) (Or.inl ⟨by rfl, ?_⟩) hHeld ?_
      rotate_left
      · intro w hSw
        go_simp <;> with_reducible rfl
      try simp only [Act.put, List.setIfInBounds_toArray, List.set_cons_zero, List.set_cons_succ]
      refine takeAt 3 (some 50) ?_ rfl rfl (by kernel_rfl) (by kernel_rfl) (by kernel_rfl) (fun _ _ _ h => h) (Or.inl ⟨by rfl, ?_⟩) hHeld ?_
      rotate_left
      · intro w hSw
        go_simp <;> with_reducible rfl
      try simp only [Act.put, List.setIfInBounds_toArray, List.set_cons_zero, List.set_cons_succ]
      refine takeAt 4 (some 51) ?_ rfl rfl (by kernel_rfl) (by kernel_rfl) (by kernel_rfl) (fun _ _ _ h => h) (Or.inl ⟨by rfl, ?_⟩) hHeld ?_
      rotate_left
      · intro w hSw
        go_simp <;> with_reducible rfl
      try simp only [Act.put, List.setIfInBounds_toArray, List.set_cons_zero, List.set_cons_succ]
      refine takeAt 5 (some 52) ?_ rfl rfl (by kernel_rfl) (by kernel_rfl) (by kernel_rfl) (fun _ _ _ h => h) (Or.inl ⟨by rfl, ?_⟩) hHeld ?_
      rotate_left
      · intro w hSw
        go_simp <;> with_reducible rfl
      try simp only [Act.put, List.setIfInBounds_toArray, List.set_cons_zero, List.set_cons_succ]
      refine takeAt 6 (some 53) ?_ rfl rfl (by kernel_rfl) (by kernel_rfl) (by kernel_rfl) (fun _ _ _ h => h) (Or.inl ⟨by rfl, ?_⟩) hHeld ?_
      rotate_left
      · intro w hSw
        go_simp <;> with_reducible rfl
      try simp only [Act.put, List.setIfInBounds_toArray, List.set_cons_zero, List.set_cons_succ]
      refine takeAt 7 (some 54) ?_ rfl rfl (by kernel_rfl) (by kernel_rfl) (by kernel_rfl) (fun _ _ _ h => h) (Or.inl ⟨by rfl, ?_⟩) hHeld ?_
      rotate_left
      · intro w hSw
        go_simp <;> with_reducible rfl
      try simp only [Act.put, List.setIfInBounds_toArray, List.set_cons_zero, List.set_cons_succ]
      refine takeAt 8 (some 55) ?_ rfl rfl (by kernel_rfl) (by kernel_rfl) (by kernel_rfl) (fun _ _ _ h => h) (Or.inl ⟨by rfl, ?_⟩) hHeld ?_
      rotate_left
      · intro w hSw
        go_simp <;> with_reducible rfl
      try simp only [Act.put, List.setIfInBounds_toArray, List.set_cons_zero, List.set_cons_succ]
      refine takeAt 9 (some 56) ?_ rfl rfl (by kernel_rfl) (by kernel_rfl) (by kernel_rfl) (fun _ _ _ h => h) (Or.inl ⟨by rfl, ?_⟩) hHeld ?_
      rotate_left
      · intro w hSw
        go_simp <;> with_reducible rfl
      try simp only [Act.put, List.setIfInBounds_toArray, List.set_cons_zero, List.set_cons_succ]
      refine takeAt 10 (some 57) ?_ rfl rfl (by kernel_rfl) (by kernel_rfl) (by kernel_rfl) (fun _ _ _ h => h) (Or.inl ⟨by rfl, ?_⟩) hHeld ?_
      rotate_left
      · intro w hSw
        go_simp <;> with_reducible rfl
      try simp only [Act.put, List.setIfInBounds_toArray, List.set_cons_zero, List.set_cons_succ]
      refine callAt 11 58 24 (vals := #[.pointer (some ⟨t2, 0, none⟩), .int .u8 (nm : Int), .agg #[.slice oa on oc, .bool o.wh]]) (by kernel_rfl) rfl rfl rfl rfl (by simp [Act.eval]) Try.func24 (by kernel_rfl) (by kernel_rfl) ?_
      refine Calls.mono (HS2.out) ?_
      rintro e x7 ⟨E7, rfl, H7⟩
      have hSS := And.intro (kp_cell H7.out.2.2.1 HEX.out.1) (And.intro (kp_cell H7.out.2.2.1 HEX.out.2.1) (kp_cell H7.out.2.2.1 HEX.out.2.2))
      clear HS2
      refine ⟨_, rfl, hSS, fun hHeld => ?_⟩
      try simp only [Act.put, List.setIfInBounds_toArray, List.set_cons_zero, List.set_cons_succ]
      refine wpAnyH_done (by kernel_rfl) ?_ _
      refine NoPanic.normal ?_
      clear z1 z2 z3
      go_wp2_with fail
      go_roundw
      case rel => exact ⟨i + 1, _, by omega, by go_num, H7.out⟩
      case measure => simp only [intOf]; omega
    · obtain rfl : i = K := by omega
      have g1 : decide ((i : Int) < (i : Int)) = false := by simp
      obtain ⟨p1, p2, p3, p4, p5⟩ := nowhere_same F r HI.out.1.dom
      have HY : Hid (Calls Try.prog 12 #[.pointer (some ⟨t, 0, none⟩), .int .u8 95, .agg #[.slice a N c, .bool r.wh]] wr fun e w' => e = .returned (.int .u16 0) ∧ Hid (Rs t b F Anyw w' ∧ Rr t2 F Anyw w' ∧ Kp w w' ∧ Lc 24 w.heap.size [.slice a N c, .bool r.wh] w')) := by
        refine (yank_any HI.out.1 (anyw _) (by omega) (by omega) (HSV.out.1.kp HI.out.2.2.1) (fit_sz HSV.out.2)).mono ?_
        rintro e w' ⟨he, q1, q2⟩
        rw [p1] at he; rw [p2] at q1
        exact ⟨he, q1, HI.out.1.rr HI.out.2.1 q2, kp_fr HI.out.2.2.1 q2 HTB.out.1, HI.out.1.box_off HI.out.2.2.2 q2⟩
      have HCu : Hid (∀ X, Rs t b F Anyw X ∧ Rr t2 F Anyw X ∧ Kp w X ∧ Lc 24 w.heap.size [.slice a N c, .bool r.wh] X → Calls Try.prog 14 #[.pointer (some ⟨t, 0, none⟩), .int .u8 95, .agg #[.slice a N c, .bool r.wh]] X fun e w' => e = .returned (.int .u16 0) ∧ Hid (Rs t b F Anyw w' ∧ Rr t2 F Anyw w' ∧ Kp w w')) := fun X hX => by
        refine (cut_any hX.1 (anyw _) (by omega) (by omega) (HSV.out.1.kp hX.2.2.1) (fit_sz HSV.out.2)).mono ?_
        rintro e w' ⟨he, q1, q2⟩
        rw [p1] at he; rw [p3] at q1
        exact ⟨he, q1, hX.1.rr hX.2.1 q2, kp_fr hX.2.2.1 q2 HTB.out.1⟩
      have HGP : Hid (getR F 95 = ⟨[], false⟩ ∧ getE F 95 = 111) := ⟨p5, p4⟩
      have u1 := HI.out.2.2.2.at (j := 0) rfl
      have u2 := HI.out.2.2.2.at (j := 1) rfl
      clear p1 p2 p3 p4 p5 HI HL hlt hi
      go_wp2_with fail
      refine Calls.mono HY.out ?_
      rintro e y1 ⟨rfl, H1⟩
      have v1 := H1.out.2.2.2.at (j := 0) rfl
      have v2 := H1.out.2.2.2.at (j := 1) rfl
      have HC2 : Hid _ := HCu.out y1 H1.out
      clear HY HCu u1 u2 H1
      go_wp2_with fail
      refine Calls.mono HC2.out ?_
      rintro e y2 ⟨rfl, H2⟩
      have HG : Hid _ := get_some H2.out.1 (x := 95) (by omega) (by omega) HGP.out.1 HGP.out.2
      clear HC2 v1 v2
      go_wp2_with fail
      refine Calls.mono HG.out ?_
      rintro e y3 ⟨a3, n3, c3, rfl, qn, hn3, hn3', H3⟩
      have HA : Hid (∀ o, Calls Try.prog 25 #[.pointer (some ⟨t, 0, none⟩), .pointer (some ⟨t2, 0, none⟩)] (y3.alloc o) fun e w' => e = .returned (.bool true) ∧ Kp w w') := fun o => by
        have k := kp_trans H3.out.2 (kp_alloc y3 o)
        refine (alike_any (H2.out.1.kp k) (H2.out.2.1.kp k)).mono ?_
        rintro e w' ⟨he, q⟩
        exact ⟨he, kp_trans (kp_trans H2.out.2.2 k) q⟩
      clear HG qn H2 H3 HGP
      go_wp2_with fail
      refine Calls.mono (HA.out _) ?_
      rintro e y4 ⟨rfl, k4⟩
      clear HA
      go_wp2_with fail
      go_ret
      exact ⟨rfl, k4⟩
end Go.Proofs.Ytbnlenanfhggiaa
/- RegsDoes: the walk. -/
namespace Go.Proofs.Ytbnlenanfhggiaa
open Go.ChangeShapes Go.WideShapes Go.ChangeAt Go.RowKit Go.Maps Go.MapKept
set_option linter.unusedVariables false
set_option linter.unusedSimpArgs false
set_option maxRecDepth 100000
/-- Not where v lies. -/
def Pv (v : Value) (k : Nat) : Prop := v.ownBlock ≠ some k
def Pw (v u : Value) (k : Nat) : Prop := v.ownBlock ≠ some k ∧ u.ownBlock ≠ some k
theorem Rs.row_off {t b : Nat} {f : Rf} {P : Nat → Prop} {w w1 : World} (h : Rs t b f P w) (k : Fr (On b) w w1) {B : Nat} {v : Value} {ls : List ByteArray} (hr : Row B v ls w) : Row B v ls w1 := by
  obtain ⟨m, ⟨es, cl, hb, _⟩, _⟩ := h.map
  refine row_fr hr k fun j hj e => ?_
  unfold On at e
  subst e
  rcases hr.2 with ⟨z, _⟩ | ⟨g, cap, cur, z, _, hg, _⟩
  · rw [z] at hj; cases hj
  · rw [z] at hj
    simp only [Value.ownBlock, Option.some.injEq] at hj
    rw [hj, hb] at hg; cases hg
theorem Rr.row_off {t : Nat} {f : Rf} {P : Nat → Prop} {w w1 : World} (h : Rr t f P w) (k : Fr (On t) w w1) {B : Nat} {v : Value} {ls : List ByteArray} (hr : Row B v ls w) : Row B v ls w1 := by
  obtain ⟨l, l1, _⟩ := h.box
  exact row_fr hr k fun j hj e => by
    unfold On at e
    exact row_ne hr l1 (by decide) (by rw [hj, e])
/-- Where a row lies was changed: the others are as they were. -/
theorem Rs.own_off {t b : Nat} {f : Rf} {P : Nat → Prop} {w w1 : World} {B : Nat} {v : Value} {ls : List ByteArray} (h : Rs t b f P w) (hr : Row B v ls w) (hP : ∀ g, P g → v.ownBlock ≠ some g) (k : Fr (fun j => v.ownBlock = some j) w w1) : Rs t b f P w1 := by
  refine h.fr k (fun g q e => hP g q e) (row_ne hr h.box (by decide)) fun e => ?_
  obtain ⟨m, ⟨es, cl, hb, _⟩, _⟩ := h.map
  rcases hr.2 with ⟨z, _⟩ | ⟨g, cap, cur, z, _, hg, _⟩
  · rw [z] at e; cases e
  · rw [z] at e
    simp only [Value.ownBlock, Option.some.injEq] at e
    rw [e, hb] at hg; cases hg
theorem Rr.own_off {t : Nat} {f : Rf} {P : Nat → Prop} {w w1 : World} {B : Nat} {v : Value} {ls : List ByteArray} (h : Rr t f P w) (hr : Row B v ls w) (hP : ∀ g, P g → v.ownBlock ≠ some g) (k : Fr (fun j => v.ownBlock = some j) w w1) : Rr t f P w1 := by
  obtain ⟨l, l1, _⟩ := h.box
  exact h.fr k (fun g q e => hP g q e) (row_ne hr l1 (by decide))
/-- The head of a round: both are the same. -/
structure Bth (w : World) (t2 : Nat) (t b : Nat) (F : Rf) (P : Nat → Prop) (X : World) : Prop where
  rs : Rs t b F P X
  rr : Rr t2 F P X
  kp : Kp w X
  hb : w.heap.size ≤ b
theorem Bth.kp_ {w : World} {t2 t b : Nat} {F : Rf} {P : Nat → Prop} {X Y : World} (h : Bth w t2 t b F P X) (k : Kp X Y) : Bth w t2 t b F P Y := ⟨h.rs.kp k, h.rr.kp k, kp_trans h.kp k, h.hb⟩
theorem Bth.mono {w : World} {t2 t b : Nat} {F : Rf} {P Q : Nat → Prop} {X : World} (h : Bth w t2 t b F P X) (hq : ∀ k, k < X.heap.size → P k → Q k) : Bth w t2 t b F Q X := ⟨h.rs.mono hq, h.rr.mono hq, h.kp, h.hb⟩
theorem lay_conv (f : Rf) (x : Int) (r : Rv) : IntKind.i64.wrap (layE f x r) = layE f x r := by
  rcases lay_range f x r with h | h | h <;> rw [h] <;> decide
theorem get_conv (f : Rf) (x : Int) : IntKind.i64.wrap (getE f x) = getE f x := by
  unfold getE; repeat' split
  all_goals decide
theorem mut_step {ls ls' : List ByteArray} {i n : Nat} (hl : ls'.length = n) (hi : i < n) (h : ∀ j, i ≤ j → ls'[j]? = ls[j]?) (s : ByteArray) : (ls'.set i s).length = n ∧ ∀ j, i + 1 ≤ j → (ls'.set i s)[j]? = ls[j]? := by
  refine ⟨by simp [hl], fun j hj => ?_⟩
  rw [List.getElem?_set_ne (by omega)]
  exact h j (by omega)
set_option maxHeartbeats 16000000 in
theorem does_walk {Q : Nat → Prop} {vl : Value} {l : List Op11} {w : World} (hl : OpsL Q vl l w) (hok : ∀ o ∈ l, o.kd < 256 ∧ o.nm < 256 ∧ szL o.r.ls ≤ 1048576) (hln : l.length ≤ 1048576) :
    Calls Try.prog 5 #[vl] w fun e w' => e = .returned (.bool true) ∧ Kp w w' := by
  have HL0 : Hid (OpsL Q vl l w) := hl
  obtain ⟨la, lc, rfl, l1, l2, l3⟩ := hl
  obtain ⟨K, hK⟩ : ∃ K, l.length = K := ⟨_, rfl⟩
  rw [hK] at HL0 l1 hln ⊢
  have HL : Hid (∀ i, i < K → ∃ B off kd nm a n c o, la = some ⟨B, off, none⟩ ∧ w.cell? ⟨B, off + i * 4, none⟩ = some (.int .u8 ((kd : Nat) : Int)) ∧ w.cell? ⟨B, off + i * 4 + 1, none⟩ = some (.int .u8 ((nm : Nat) : Int)) ∧ w.cell? ⟨B, off + i * 4 + 2, none⟩ = some (.slice a n c) ∧ w.cell? ⟨B, off + i * 4 + 3, none⟩ = some (.bool o.wh) ∧ kd < 256 ∧ nm < 256 ∧ Sl Q (.slice a n c) (o : Rv).ls w ∧ szL o.ls ≤ 1048576 ∧ n = o.ls.length) := fun i hi => by
    obtain ⟨o, ho⟩ : ∃ o, l[i]? = some o := ⟨_, List.getElem?_eq_getElem (by omega)⟩
    obtain ⟨B, off, e, q1, q2, q3, q4, q5⟩ := l3 i o ho
    obtain ⟨a, c, e2, r1, r2, _⟩ := q5.form
    rw [e2] at q3 q5
    have := hok o (List.mem_of_getElem? ho)
    exact ⟨B, off, o.kd, o.nm, a, _, c, o.r, e, q1, q2, q3, q4, this.1, this.2.1, q5, this.2.2, rfl⟩
  have HH0 : Hid (Calls Try.prog 9 #[.slice la K lc] w fun e w' => ∃ hb, e = .returned (.bool hb) ∧ w' = w) := heavy_any HL0.out
  have HKN : Hid (∀ X, Calls Try.prog 10 #[] X fun e w' => e = .returned (.bool true) ∧ Kp X w') := rknown_any
  unfold maxLen at l2
  clear hK HL0 l3 hok
  go_enter Try.func5, Try.ntmps5
  go_wp2_with fail
  refine Calls.mono HH0.out ?_
  rintro e x0 ⟨hb0, rfl, e0⟩
  rw [e0]
  clear e0 HH0
  cases hb0
  rotate_left
  · go_wp2_with fail
    refine Calls.mono (HKN.out _) ?_
    rintro e x3 ⟨rfl, k3⟩
    clear HKN
    go_wp2_with fail
    go_ret
    exact ⟨rfl, k3⟩
  go_wp2_with fail
  refine Calls.mono (HKN.out _) ?_
  rintro e x3 ⟨rfl, k3⟩
  have HN : Hid (Calls Try.prog 11 #[] x3 fun e w' => ∃ t b, e = .returned (.pointer (some ⟨t, 0, none⟩)) ∧ Hid (Rs t b (fun _ => none) Anyw w' ∧ Kp x3 w' ∧ x3.heap.size ≤ b)) := by
    refine (gnew_any (P := Anyw) x3).mono ?_
    rintro e w' ⟨t, b, he, q1, q2, _, q3⟩
    exact ⟨t, b, he, q1, q2, q3⟩
  have HK3 : Hid (Kp w x3) := k3
  clear k3 HKN
  go_wp2_with fail
  refine Calls.mono HN.out ?_
  rintro e x4 ⟨t, b, rfl, H4⟩
  have hq := eql_ptrR t
  have HN2 : Hid (Calls Try.prog 17 #[] x4 fun e w' => ∃ t2, e = .returned (.pointer (some ⟨t2, 0, none⟩)) ∧ Hid (Rr t2 (fun _ => none) Anyw w' ∧ Kp x4 w' ∧ x4.heap.size ≤ t2)) := by
    refine (rnew_any Anyw x4).mono ?_
    rintro e w' ⟨t2, he, q1, q2, q3⟩
    exact ⟨t2, he, q1, q2, q3⟩
  clear HN
  go_wp2_with fail
  refine Calls.mono HN2.out ?_
  rintro e x5 ⟨t2, rfl, H5⟩
  have H0 : Hid (Bth w t2 t b (fun _ => none) Anyw x5) := ⟨H4.out.1.kp H5.out.2.1, H5.out.1, kp_trans (kp_trans HK3.out H4.out.2.1) H5.out.2.1, Nat.le_trans HK3.out.size H4.out.2.2⟩
  have HT2 : Hid (w.heap.size ≤ t2) := Nat.le_trans (kp_trans HK3.out H4.out.2.1).size H5.out.2.2
  clear HN2 HK3 H4 H5
  go_wp2_with fail
  clear hq
  go_loopw [3, 5] (fun v3 v5 wr => ∃ (i : Nat) (F : Rf) (t b : Nat), i ≤ K ∧ v5 = .int .i64 i ∧ v3 = .pointer (some ⟨t, 0, none⟩) ∧ Hid (Bth w t2 t b F Anyw wr)) (fun _ v5 _ => K - (intOf v5).toNat)
  case atStart => exact ⟨0, _, t, b, Nat.zero_le _, rfl, rfl, H0.out⟩
  case round =>
    obtain ⟨i, F, t, b, hi, rfl, rfl, HI⟩ := hrel
    clear H0
    by_cases hlt : i < K
    rotate_left
    · obtain rfl : i = K := by omega
      have g1 : decide ((i : Int) < (i : Int)) = false := by simp
      have HE : Hid (Kp w wr) := HI.out.kp
      clear HI HL
      go_wp2_with fail
      go_ret
      exact ⟨rfl, HE.out⟩
    have g1 : decide ((i : Int) < (K : Int)) = true := decide_eq_true (by omega)
    have g2 : decide (i < K) = true := decide_eq_true (by omega)
    obtain ⟨B, off, kd, nm, oa, on, oc, o, rfl, e0, e1, e2, e3, hkd, hnm, hsl, hoz, hon⟩ := HL.out i hlt
    have y0 := kp_cell HI.out.kp e0
    have y1 := kp_cell HI.out.kp e1
    have y2 := kp_cell HI.out.kp e2
    have y3 := kp_cell HI.out.kp e3
    obtain ⟨W6, hW6⟩ : ∃ W6, wr.alloc (.cells #[.int .u8 (kd : Int), .int .u8 (nm : Int), .slice oa on oc, .bool o.wh] 27) = W6 := ⟨_, rfl⟩
    have k6 : Kp wr W6 := by rw [← hW6]; exact kp_alloc _ _
    have b6 : Lc 27 wr.heap.size [.int .u8 (kd : Int), .int .u8 (nm : Int), .slice oa on oc, .bool o.wh] W6 := by rw [← hW6]; exact Lc.new wr _ _
    have hol : o.ls.length ≤ 1048576 := by have := szL_len o.ls; omega
    have HLn : Hid (Calls Try.prog 18 #[.agg #[.slice oa on oc, .bool o.wh]] W6 fun e w' => ∃ a' c', e = .returned (.agg #[.slice a' on c', .bool o.wh]) ∧ (on ≤ c' ∧ c' ≤ 9223372036854775807) ∧ Hid (Row W6.heap.size (.slice a' on c') o.ls w' ∧ Kp W6 w')) := by
      refine (llent_any (hsl.kp (kp_trans HI.out.kp k6)) (by omega)).mono ?_
      rintro e w' ⟨v', he, q1, q2⟩
      obtain ⟨a', c', rfl, r1, r2⟩ := q1.form
      rw [← hon] at he q1 r1
      exact ⟨a', c', he, ⟨r1, r2⟩, q1, q2⟩
    have HO : Hid (Sl Q (.slice oa on oc) o.ls w ∧ szL o.ls ≤ 1048576 ∧ on = o.ls.length) := ⟨hsl, hoz, hon⟩
    have u2 := b6.at (j := 2) rfl
    have u3 := b6.at (j := 3) rfl
    obtain ⟨B6, hB6⟩ : ∃ B6, wr.heap.size = B6 := ⟨_, rfl⟩
    rw [hB6] at b6 u2 u3
    have HB6 : Hid (Lc 27 B6 [.int .u8 (kd : Int), .int .u8 (nm : Int), .slice oa on oc, .bool o.wh] W6 ∧ Bth w t2 t b F Anyw W6) := ⟨b6, HI.out.kp_ k6⟩
    have HW : Hid (_ = W6) := hW6
    have hon20 : on ≤ 1048576 := by omega
    clear e0 e1 e2 e3 hsl hoz hon hol hW6 k6 b6 HI
    go_upto_region 11 with fail
    rw [HW.out]
    clear HW hB6 y0 y1 y2 y3
    go_wp2_with fail
    refine Calls.mono HLn.out ?_
    rintro e x7 ⟨a', c', rfl, hcc, H7⟩
    clear HLn u2 u3
    obtain ⟨W7, hW7⟩ : ∃ W7, x7.alloc (.cells #[.slice a' on c', .bool o.wh] 24) = W7 := ⟨_, rfl⟩
    have k7 : Kp x7 W7 := by rw [← hW7]; exact kp_alloc _ _
    have b7 : Lc 24 x7.heap.size [.slice a' on c', .bool o.wh] W7 := by rw [← hW7]; exact Lc.new x7 _ _
    obtain ⟨B7, hB7⟩ : ∃ B7, x7.heap.size = B7 := ⟨_, rfl⟩
    rw [hB7] at b7
    have HS7 : Hid (Bth w t2 t b F (Pv (.slice a' on c')) W7.drew ∧ Lc 27 B6 [.int .u8 (kd : Int), .int .u8 (nm : Int), .slice oa on oc, .bool o.wh] W7.drew ∧ Lc 24 B7 [.slice a' on c', .bool o.wh] W7.drew ∧ Row w.heap.size (.slice a' on c') o.ls W7.drew ∧ (∀ j, W7.heap.size ≤ j → Pv (.slice a' on c') j)) := by
      have hrow := H7.out.1
      have hB := HB6.out.2.mono (Q := Pv (.slice a' on c')) fun k hk _ e => by
        have := (hrow.lt k e).1; omega
      have kk := kp_trans (kp_trans H7.out.2 k7) (kp_drew W7)
      have hr2 := row_kp hrow (kp_trans k7 (kp_drew W7))
      refine ⟨hB.kp_ kk, HB6.out.1.kp kk, b7.kp (kp_drew _), row_lift hr2 fun j hj => Nat.le_trans HB6.out.2.kp.size (hrow.lt j hj).1, fun j hj e => ?_⟩
      have := (hrow.lt j e).2
      have := k7.size
      omega
    obtain ⟨KW, hKW⟩ : ∃ KW, kwB (nm : Int) = KW := ⟨_, rfl⟩
    have HK1 : Hid (∀ X, Calls Try.prog 15 #[.int .u8 (nm : Int)] X fun e w' => e = .returned (.bool KW) ∧ Kp X w') := fun X => by rw [← hKW]; exact gknown_any _ X
    have HK2 : Hid (∀ X, Calls Try.prog 19 #[.int .u8 (nm : Int)] X fun e w' => e = .returned (.bool KW) ∧ Kp X w') := fun X => by rw [← hKW]; exact rrknown_any _ X
    have v1 := HS7.out.2.1.at (j := 1) rfl
    have HW : Hid (_ = W7) := hW7
    clear hW7 k7 b7 H7 HB6 hKW
    go_upto_region 12 with fail
    rw [HW.out]
    clear HW hB7
    refine wp_region_noPanic ?_
    refine wp_region_held_drew (S := fun z => z.cell? ⟨B6, 1, none⟩ = some (.int .u8 (nm : Int))) (by kernel_rfl) (v1) (fun hHeld => ?_)
    refine takeAt 0 (some 39) ?_ rfl rfl (by kernel_rfl) (by kernel_rfl) (by kernel_rfl) (fun _ _ _ h => h) (Or.inl ⟨by rfl, ?_⟩) hHeld ?_
    rotate_left
    · intro w hSw
      go_simp <;> with_reducible rfl
    try simp only [Act.put, List.setIfInBounds_toArray, List.set_cons_zero, List.set_cons_succ]
    refine takeAt 1 (some 40) ?_ rfl rfl (by kernel_rfl) (by kernel_rfl) (by kernel_rfl) (fun _ _ _ h => h) (Or.inl ⟨by rfl, ?_⟩) hHeld ?_
    rotate_left
    · intro w hSw
      go_simp <;> with_reducible rfl
    try simp only [Act.put, List.setIfInBounds_toArray, List.set_cons_zero, List.set_cons_succ]
    refine takeAt 3 (some 42) ?_ rfl rfl (by kernel_rfl) (by kernel_rfl) (by kernel_rfl) (fun _ _ _ h => h) (Or.inl ⟨by rfl, ?_⟩) hHeld ?_
    rotate_left
    · intro w hSw
      go_simp <;> with_reducible rfl
    try simp only [Act.put, List.setIfInBounds_toArray, List.set_cons_zero, List.set_cons_succ]
    refine takeAt 4 (some 43) ?_ rfl rfl (by kernel_rfl) (by kernel_rfl) (by kernel_rfl) (fun _ _ _ h => h) (Or.inl ⟨by rfl, ?_⟩) hHeld ?_
    rotate_left
    · intro w hSw
      go_simp <;> with_reducible rfl
    try simp only [Act.put, List.setIfInBounds_toArray, List.set_cons_zero, List.set_cons_succ]
    refine callAt 2 41 15 (vals := #[.int .u8 (nm : Int)]) (by kernel_rfl) rfl rfl rfl rfl (by simp [Act.eval]) Try.func15 (by kernel_rfl) (by kernel_rfl) ?_
    refine Calls.mono (HK1.out _) ?_
    rintro e x8 ⟨rfl, k8⟩
    have hv8 := kp_cell k8 v1
    refine ⟨_, rfl, hv8, fun hHeld => ?_⟩
    try simp only [Act.put, List.setIfInBounds_toArray, List.set_cons_zero, List.set_cons_succ]
    refine callAt 5 44 19 (vals := #[.int .u8 (nm : Int)]) (by kernel_rfl) rfl rfl rfl rfl (by simp [Act.eval]) Try.func19 (by kernel_rfl) (by kernel_rfl) ?_
    refine Calls.mono (HK2.out _) ?_
    rintro e x9 ⟨rfl, k9⟩
    have hv9 := kp_cell k9 hv8
    have HK9 : Hid (Kp W7.drew x9) := kp_trans k8 k9
    clear HK1 HK2 k8 k9
    refine ⟨_, rfl, hv9, fun hHeld => ?_⟩
    try simp only [Act.put, List.setIfInBounds_toArray, List.set_cons_zero, List.set_cons_succ]
    refine takeAt 6 (some 45) ?_ rfl rfl (by kernel_rfl) (by kernel_rfl) (by kernel_rfl) (fun _ _ _ h => h) (Or.inl ⟨by rfl, ?_⟩) hHeld ?_
    rotate_left
    · intro w hSw
      go_simp <;> with_reducible rfl
    try simp only [Act.put, List.setIfInBounds_toArray, List.set_cons_zero, List.set_cons_succ]
    refine takeAt 7 (some 8) ?_ rfl rfl (by kernel_rfl) (by kernel_rfl) (by kernel_rfl) (fun _ _ _ h => h) (Or.inl ⟨by rfl, ?_⟩) hHeld ?_
    rotate_left
    · intro w hSw
      go_simp <;> with_reducible rfl
    try simp only [Act.put, List.setIfInBounds_toArray, List.set_cons_zero, List.set_cons_succ]
    refine wpAnyH_done (by kernel_rfl) ?_ _
    refine NoPanic.normal ?_
    replace HS7 : Hid (Bth w t2 t b F (Pv (.slice a' on c')) x9 ∧ Lc 27 B6 [.int .u8 (kd : Int), .int .u8 (nm : Int), .slice oa on oc, .bool o.wh] x9 ∧ Lc 24 B7 [.slice a' on c', .bool o.wh] x9 ∧ Row w.heap.size (.slice a' on c') o.ls x9 ∧ (∀ j, x9.heap.size ≤ j → Pv (.slice a' on c') j)) := ⟨HS7.out.1.kp_ HK9.out, HS7.out.2.1.kp HK9.out, HS7.out.2.2.1.kp HK9.out, row_kp HS7.out.2.2.2.1 HK9.out, fun j hj => HS7.out.2.2.2.2 j (Nat.le_trans HK9.out.size hj)⟩
    clear HK9 v1 hHeld
    have v0 := HS7.out.2.1.at (j := 0) rfl
    obtain ⟨m, hm⟩ : ∃ m : Nat, kd % 6 = m := ⟨_, rfl⟩
    have hm6 : m < 6 := by omega
    have hmt : (kd : Int).tmod 6 = (m : Int) := by rw [Int.tmod_eq_emod_of_nonneg (by omega)]; omega
    clear hm
    go_upto_block 2 with fail
    go_cut [3, 8, 9, 10, 11, 12, 13] from 26 to 159 (fun v3 v8 v9 v10 v11 v12 v13 wx => ∃ t' b' F', v3 = .pointer (some ⟨t', 0, none⟩) ∧ v8 = .bool true ∧ Hid (Bth w t2 t' b' F' (Pv (.slice a' on c')) wx ∧ Lc 24 B7 [.slice a' on c', .bool o.wh] wx ∧ Row w.heap.size (.slice a' on c') o.ls wx))
    case first =>
      have HYK : Hid (∀ (fa : Nat) (FF : Rf), (∀ X, Rs t b F (Pv (.slice a' on c')) X → (∀ j, X.heap.size ≤ j → Pv (.slice a' on c') j) → Sl Anyw (.slice a' on c') o.ls X → Calls Try.prog fa #[.pointer (some ⟨t, 0, none⟩), .int .u8 (nm : Int), .agg #[.slice a' on c', .bool o.wh]] X fun e w' => e = .returned (.int .u16 (layE F (nm : Int) o)) ∧ Rs t b FF (Pv (.slice a' on c')) w' ∧ Fr (On b) X w') → Calls Try.prog fa #[.pointer (some ⟨t, 0, none⟩), .int .u8 (nm : Int), .agg #[.slice a' on c', .bool o.wh]] x9.drew fun e w' => e = .returned (.int .u16 (layE F (nm : Int) o)) ∧ Hid (Rs t b FF (Pv (.slice a' on c')) w' ∧ Rr t2 F (Pv (.slice a' on c')) w' ∧ Kp w w' ∧ Lc 27 B6 [.int .u8 (kd : Int), .int .u8 (nm : Int), .slice oa on oc, .bool o.wh] w' ∧ Lc 24 B7 [.slice a' on c', .bool o.wh] w' ∧ Row w.heap.size (.slice a' on c') o.ls w' ∧ (∀ j, w'.heap.size ≤ j → Pv (.slice a' on c') j))) := fun fa FF hc => by
        have h9 := HS7.out
        have kd := kp_drew x9
        have hB := h9.1.kp_ kd
        have hR := row_kp h9.2.2.2.1 kd
        refine (hc x9.drew hB.rs h9.2.2.2.2 ((Sl.of_row hR).mono fun _ _ _ => trivial)).mono ?_
        rintro e w' ⟨he, q1, q2⟩
        exact ⟨he, q1, hB.rs.rr hB.rr q2, kp_fr hB.kp q2 hB.hb, hB.rs.box_off (h9.2.1.kp kd) q2, hB.rs.box_off (h9.2.2.1.kp kd) q2, hB.rs.row_off q2 hR, fun j hj => h9.2.2.2.2 j (Nat.le_trans q2.size hj)⟩
      have HYR : Hid (∀ (fa : Nat) (FF : Rf), (∀ X, Rr t2 F (Pv (.slice a' on c')) X → (∀ j, X.heap.size ≤ j → Pv (.slice a' on c') j) → Sl Q (.slice oa on oc) o.ls X → Calls Try.prog fa #[.pointer (some ⟨t2, 0, none⟩), .int .u8 (nm : Int), .agg #[.slice oa on oc, .bool o.wh]] X fun e w' => e = .returned (.int .i64 (layE F (nm : Int) o)) ∧ Rr t2 FF (Pv (.slice a' on c')) w' ∧ Fr (On t2) X w') → ∀ Y, Rs t b FF (Pv (.slice a' on c')) Y ∧ Rr t2 F (Pv (.slice a' on c')) Y ∧ Kp w Y ∧ Lc 27 B6 [.int .u8 (kd : Int), .int .u8 (nm : Int), .slice oa on oc, .bool o.wh] Y ∧ Lc 24 B7 [.slice a' on c', .bool o.wh] Y ∧ Row w.heap.size (.slice a' on c') o.ls Y ∧ (∀ j, Y.heap.size ≤ j → Pv (.slice a' on c') j) → Calls Try.prog fa #[.pointer (some ⟨t2, 0, none⟩), .int .u8 (nm : Int), .agg #[.slice oa on oc, .bool o.wh]] Y fun e w' => e = .returned (.int .i64 (layE F (nm : Int) o)) ∧ Hid (Bth w t2 t b FF (Pv (.slice a' on c')) w' ∧ Lc 24 B7 [.slice a' on c', .bool o.wh] w' ∧ Row w.heap.size (.slice a' on c') o.ls w' ∧ Lc 27 B6 [.int .u8 (kd : Int), .int .u8 (nm : Int), .slice oa on oc, .bool o.wh] w')) := fun fa FF hc Y hY => by
        refine (hc Y hY.2.1 hY.2.2.2.2.2.2 (HO.out.1.kp hY.2.2.1)).mono ?_
        rintro e w' ⟨he, q1, q2⟩
        exact ⟨he, ⟨hY.2.1.rs hY.1 q2, q1, kp_fr hY.2.2.1 q2 HT2.out, HS7.out.1.hb⟩, hY.2.1.box_off hY.2.2.2.2.1 (by decide) q2, hY.2.1.row_off q2 hY.2.2.2.2.2.1, hY.2.1.box_off hY.2.2.2.1 (by decide) q2⟩
      have hEw := lay_conv F (nm : Int) o
      have s1 := (HS7.out.2.1.kp (kp_drew x9)).at (j := 1) rfl
      have s2 := (HS7.out.2.1.kp (kp_drew x9)).at (j := 2) rfl
      have s3 := (HS7.out.2.1.kp (kp_drew x9)).at (j := 3) rfl
      have s4 := (HS7.out.2.2.1.kp (kp_drew x9)).at (j := 0) rfl
      have s5 := (HS7.out.2.2.1.kp (kp_drew x9)).at (j := 1) rfl
      have hm' : m = 0 ∨ m = 1 ∨ m = 2 ∨ m = 3 ∨ m = 4 ∨ m = 5 := by omega
      clear hm6
      rcases hm' with rfl | rfl | rfl | rfl | rfl | rfl
      · have hmt' : (kd : Int).tmod 6 = 0 := hmt
        clear hmt
        have HC1 : Hid _ := HYK.out 12 (yankF F (nm : Int) o) fun X h hp hs => yank_any h hp (by omega) (by omega) hs (fit_sz HO.out.2.1)
        have HC2 : Hid _ := HYR.out 24 (yankF F (nm : Int) o) fun X h hp hs => ryank_any h hp hnm hs HO.out.2.1
        clear HYK HYR
        generalize layE F (nm : Int) o = E at *
        go_upto_region 14 with fail
        refine wp_region_noPanic ?_
        refine wp_region_held_drew (S := fun z => z.cell? ⟨B6, 1, none⟩ = some (.int .u8 (nm : Int)) ∧ z.cell? ⟨B6, 2, none⟩ = some (.slice oa on oc) ∧ z.cell? ⟨B6, 3, none⟩ = some (.bool o.wh) ∧ z.cell? ⟨B7, 0, none⟩ = some (.slice a' on c') ∧ z.cell? ⟨B7, 1, none⟩ = some (.bool o.wh)) (by kernel_rfl) (⟨s1, s2, s3, s4, s5⟩) (fun hHeld => ?_)
        refine takeAt 0 (some 49) ?_ rfl rfl (by kernel_rfl) (by kernel_rfl) (by kernel_rfl) (fun _ _ _ h => h) (Or.inl ⟨by rfl, ?_⟩) hHeld ?_
        rotate_left
        · intro w hSw
          go_simp <;> with_reducible rfl
        try simp only [Act.put, List.setIfInBounds_toArray, List.set_cons_zero, List.set_cons_succ]
        refine takeAt 1 (some 50) ?_ rfl rfl (by kernel_rfl) (by kernel_rfl) (by kernel_rfl) (fun _ _ _ h => h) (Or.inl ⟨by rfl, ?_⟩) hHeld ?_
        rotate_left
        · intro w hSw
          go_simp <;> with_reducible rfl
        try simp only [Act.put, List.setIfInBounds_toArray, List.set_cons_zero, List.set_cons_succ]
        refine takeAt 2 (some 51) ?_ rfl rfl (by kernel_rfl) (by kernel_rfl) (by kernel_rfl) (fun _ _ _ h => h) (Or.inl ⟨by rfl, ?_⟩) hHeld ?_
        rotate_left
        · intro w hSw
          go_simp <;> with_reducible rfl
        try simp only [Act.put, List.setIfInBounds_toArray, List.set_cons_zero, List.set_cons_succ]
        refine takeAt 3 (some 52) ?_ rfl rfl (by kernel_rfl) (by kernel_rfl) (by kernel_rfl) (fun _ _ _ h => h) (Or.inl ⟨by rfl, ?_⟩) hHeld ?_
        rotate_left
        · intro w hSw
          go_simp <;> with_reducible rfl
        try simp only [Act.put, List.setIfInBounds_toArray, List.set_cons_zero, List.set_cons_succ]
        refine takeAt 4 (some 53) ?_ rfl rfl (by kernel_rfl) (by kernel_rfl) (by kernel_rfl) (fun _ _ _ h => h) (Or.inl ⟨by rfl, ?_⟩) hHeld ?_
        rotate_left
        · intro w hSw
          go_simp <;> with_reducible rfl
        try simp only [Act.put, List.setIfInBounds_toArray, List.set_cons_zero, List.set_cons_succ]
        refine takeAt 5 (some 54) ?_ rfl rfl (by kernel_rfl) (by kernel_rfl) (by kernel_rfl) (fun _ _ _ h => h) (Or.inl ⟨by rfl, ?_⟩) hHeld ?_
        rotate_left
        · intro w hSw
          go_simp <;> with_reducible rfl
        try simp only [Act.put, List.setIfInBounds_toArray, List.set_cons_zero, List.set_cons_succ]
        refine takeAt 8 (some 57) ?_ rfl rfl (by kernel_rfl) (by kernel_rfl) (by kernel_rfl) (fun _ _ _ h => h) (Or.inl ⟨by rfl, ?_⟩) hHeld ?_
        rotate_left
        · intro w hSw
          go_simp <;> with_reducible rfl
        try simp only [Act.put, List.setIfInBounds_toArray, List.set_cons_zero, List.set_cons_succ]
        refine takeAt 9 (some 58) ?_ rfl rfl (by kernel_rfl) (by kernel_rfl) (by kernel_rfl) (fun _ _ _ h => h) (Or.inl ⟨by rfl, ?_⟩) hHeld ?_
        rotate_left
        · intro w hSw
          go_simp <;> with_reducible rfl
        try simp only [Act.put, List.setIfInBounds_toArray, List.set_cons_zero, List.set_cons_succ]
        refine takeAt 10 (some 59) ?_ rfl rfl (by kernel_rfl) (by kernel_rfl) (by kernel_rfl) (fun _ _ _ h => h) (Or.inl ⟨by rfl, ?_⟩) hHeld ?_
        rotate_left
        · intro w hSw
          go_simp <;> with_reducible rfl
        try simp only [Act.put, List.setIfInBounds_toArray, List.set_cons_zero, List.set_cons_succ]
        refine takeAt 11 (some 60) ?_ rfl rfl (by kernel_rfl) (by kernel_rfl) (by kernel_rfl) (fun _ _ _ h => h) (Or.inl ⟨by rfl, ?_⟩) hHeld ?_
        rotate_left
        · intro w hSw
          go_simp <;> with_reducible rfl
        try simp only [Act.put, List.setIfInBounds_toArray, List.set_cons_zero, List.set_cons_succ]
        refine takeAt 12 (some 61) ?_ rfl rfl (by kernel_rfl) (by kernel_rfl) (by kernel_rfl) (fun _ _ _ h => h) (Or.inl ⟨by rfl, ?_⟩) hHeld ?_
        rotate_left
        · intro w hSw
          go_simp <;> with_reducible rfl
        try simp only [Act.put, List.setIfInBounds_toArray, List.set_cons_zero, List.set_cons_succ]
        refine callAtG 6 55 12 (vals := #[.pointer (some ⟨t, 0, none⟩), .int .u8 (nm : Int), .agg #[.slice a' on c', .bool o.wh]]) (by kernel_rfl) rfl rfl rfl (by rfl) (by simp [Act.eval]) Try.func12 (by kernel_rfl) (by kernel_rfl) ?_
        refine Calls.mono (HC1.out) ?_
        rintro e z1 ⟨rfl, Z1⟩
        have hz1 := And.intro (Z1.out.2.2.2.1.at (j := 1) rfl) (And.intro (Z1.out.2.2.2.1.at (j := 2) rfl) (And.intro (Z1.out.2.2.2.1.at (j := 3) rfl) (And.intro (Z1.out.2.2.2.2.1.at (j := 0) rfl) (Z1.out.2.2.2.2.1.at (j := 1) rfl))))
        have HC3 : Hid _ := HC2.out z1 Z1.out
        clear HC1 HC2
        refine ⟨_, rfl, hz1, fun hHeld => ?_⟩
        try simp only [Act.put, List.setIfInBounds_toArray, List.set_cons_zero, List.set_cons_succ]
        refine takeAt 7 (some 56) ?_ rfl rfl (by kernel_rfl) (by kernel_rfl) (by kernel_rfl) (fun _ _ _ h => h) (Or.inl ⟨by rfl, ?_⟩) hHeld ?_
        rotate_left
        · intro w hSw
          go_simp <;> with_reducible rfl
        try simp only [Act.put, List.setIfInBounds_toArray, List.set_cons_zero, List.set_cons_succ]
        refine callAtG 13 62 24 (vals := #[.pointer (some ⟨t2, 0, none⟩), .int .u8 (nm : Int), .agg #[.slice oa on oc, .bool o.wh]]) (by kernel_rfl) rfl rfl rfl (by rfl) (by simp [Act.eval]) Try.func24 (by kernel_rfl) (by kernel_rfl) ?_
        refine Calls.mono (HC3.out) ?_
        rintro e z2 ⟨rfl, Z2⟩
        have hz2 := And.intro (Z2.out.2.2.2.at (j := 1) rfl) (And.intro (Z2.out.2.2.2.at (j := 2) rfl) (And.intro (Z2.out.2.2.2.at (j := 3) rfl) (And.intro (Z2.out.2.1.at (j := 0) rfl) (Z2.out.2.1.at (j := 1) rfl))))
        clear HC3 Z1
        refine ⟨_, rfl, hz2, fun hHeld => ?_⟩
        try simp only [Act.put, List.setIfInBounds_toArray, List.set_cons_zero, List.set_cons_succ]
        refine takeAt 14 (some 63) ?_ rfl rfl (by kernel_rfl) (by kernel_rfl) (by kernel_rfl) (fun _ _ _ h => h) (Or.inl ⟨by rfl, ?_⟩) hHeld ?_
        rotate_left
        · intro w hSw
          go_simp <;> with_reducible rfl
        try simp only [Act.put, List.setIfInBounds_toArray, List.set_cons_zero, List.set_cons_succ]
        refine takeAt 15 (some 64) ?_ rfl rfl (by kernel_rfl) (by kernel_rfl) (by kernel_rfl) (fun _ _ _ h => h) (Or.inl ⟨by rfl, ?_⟩) hHeld ?_
        rotate_left
        · intro w hSw
          go_simp <;> with_reducible rfl
        try simp only [Act.put, List.setIfInBounds_toArray, List.set_cons_zero, List.set_cons_succ]
        refine takeAt 16 (some 8) ?_ rfl rfl (by kernel_rfl) (by kernel_rfl) (by kernel_rfl) (fun _ _ _ h => h) (Or.inl ⟨by rfl, ?_⟩) hHeld ?_
        rotate_left
        · intro w hSw
          go_simp <;> with_reducible rfl
        try simp only [Act.put, List.setIfInBounds_toArray, List.set_cons_zero, List.set_cons_succ]
        refine wpAnyH_done (by kernel_rfl) ?_ _
        refine NoPanic.normal ?_
        clear s1 s2 s3 s4 s5 hz1 hz2 hEw
        go_wp2_with fail
        go_meet
        exact ⟨t, b, _, rfl, rfl, Z2.out.1, Z2.out.2.1, Z2.out.2.2.1⟩
      · have hmt' : (kd : Int).tmod 6 = 1 := hmt
        clear hmt
        have HC1 : Hid _ := HYK.out 12 (yankF F (nm : Int) o) fun X h hp hs => yank_any h hp (by omega) (by omega) hs (fit_sz HO.out.2.1)
        have HC2 : Hid _ := HYR.out 24 (yankF F (nm : Int) o) fun X h hp hs => ryank_any h hp hnm hs HO.out.2.1
        clear HYK HYR
        generalize layE F (nm : Int) o = E at *
        go_upto_region 14 with fail
        refine wp_region_noPanic ?_
        refine wp_region_held_drew (S := fun z => z.cell? ⟨B6, 1, none⟩ = some (.int .u8 (nm : Int)) ∧ z.cell? ⟨B6, 2, none⟩ = some (.slice oa on oc) ∧ z.cell? ⟨B6, 3, none⟩ = some (.bool o.wh) ∧ z.cell? ⟨B7, 0, none⟩ = some (.slice a' on c') ∧ z.cell? ⟨B7, 1, none⟩ = some (.bool o.wh)) (by kernel_rfl) (⟨s1, s2, s3, s4, s5⟩) (fun hHeld => ?_)
        refine takeAt 0 (some 49) ?_ rfl rfl (by kernel_rfl) (by kernel_rfl) (by kernel_rfl) (fun _ _ _ h => h) (Or.inl ⟨by rfl, ?_⟩) hHeld ?_
        rotate_left
        · intro w hSw
          go_simp <;> with_reducible rfl
        try simp only [Act.put, List.setIfInBounds_toArray, List.set_cons_zero, List.set_cons_succ]
        refine takeAt 1 (some 50) ?_ rfl rfl (by kernel_rfl) (by kernel_rfl) (by kernel_rfl) (fun _ _ _ h => h) (Or.inl ⟨by rfl, ?_⟩) hHeld ?_
        rotate_left
        · intro w hSw
          go_simp <;> with_reducible rfl
        try simp only [Act.put, List.setIfInBounds_toArray, List.set_cons_zero, List.set_cons_succ]
        refine takeAt 2 (some 51) ?_ rfl rfl (by kernel_rfl) (by kernel_rfl) (by kernel_rfl) (fun _ _ _ h => h) (Or.inl ⟨by rfl, ?_⟩) hHeld ?_
        rotate_left
        · intro w hSw
          go_simp <;> with_reducible rfl
        try simp only [Act.put, List.setIfInBounds_toArray, List.set_cons_zero, List.set_cons_succ]
        refine takeAt 3 (some 52) ?_ rfl rfl (by kernel_rfl) (by kernel_rfl) (by kernel_rfl) (fun _ _ _ h => h) (Or.inl ⟨by rfl, ?_⟩) hHeld ?_
        rotate_left
        · intro w hSw
          go_simp <;> with_reducible rfl
        try simp only [Act.put, List.setIfInBounds_toArray, List.set_cons_zero, List.set_cons_succ]
        refine takeAt 4 (some 53) ?_ rfl rfl (by kernel_rfl) (by kernel_rfl) (by kernel_rfl) (fun _ _ _ h => h) (Or.inl ⟨by rfl, ?_⟩) hHeld ?_
        rotate_left
        · intro w hSw
          go_simp <;> with_reducible rfl
        try simp only [Act.put, List.setIfInBounds_toArray, List.set_cons_zero, List.set_cons_succ]
        refine takeAt 5 (some 54) ?_ rfl rfl (by kernel_rfl) (by kernel_rfl) (by kernel_rfl) (fun _ _ _ h => h) (Or.inl ⟨by rfl, ?_⟩) hHeld ?_
        rotate_left
        · intro w hSw
          go_simp <;> with_reducible rfl
        try simp only [Act.put, List.setIfInBounds_toArray, List.set_cons_zero, List.set_cons_succ]
        refine takeAt 8 (some 57) ?_ rfl rfl (by kernel_rfl) (by kernel_rfl) (by kernel_rfl) (fun _ _ _ h => h) (Or.inl ⟨by rfl, ?_⟩) hHeld ?_
        rotate_left
        · intro w hSw
          go_simp <;> with_reducible rfl
        try simp only [Act.put, List.setIfInBounds_toArray, List.set_cons_zero, List.set_cons_succ]
        refine takeAt 9 (some 58) ?_ rfl rfl (by kernel_rfl) (by kernel_rfl) (by kernel_rfl) (fun _ _ _ h => h) (Or.inl ⟨by rfl, ?_⟩) hHeld ?_
        rotate_left
        · intro w hSw
          go_simp <;> with_reducible rfl
        try simp only [Act.put, List.setIfInBounds_toArray, List.set_cons_zero, List.set_cons_succ]
        refine takeAt 10 (some 59) ?_ rfl rfl (by kernel_rfl) (by kernel_rfl) (by kernel_rfl) (fun _ _ _ h => h) (Or.inl ⟨by rfl, ?_⟩) hHeld ?_
        rotate_left
        · intro w hSw
          go_simp <;> with_reducible rfl
        try simp only [Act.put, List.setIfInBounds_toArray, List.set_cons_zero, List.set_cons_succ]
        refine takeAt 11 (some 60) ?_ rfl rfl (by kernel_rfl) (by kernel_rfl) (by kernel_rfl) (fun _ _ _ h => h) (Or.inl ⟨by rfl, ?_⟩) hHeld ?_
        rotate_left
        · intro w hSw
          go_simp <;> with_reducible rfl
        try simp only [Act.put, List.setIfInBounds_toArray, List.set_cons_zero, List.set_cons_succ]
        refine takeAt 12 (some 61) ?_ rfl rfl (by kernel_rfl) (by kernel_rfl) (by kernel_rfl) (fun _ _ _ h => h) (Or.inl ⟨by rfl, ?_⟩) hHeld ?_
        rotate_left
        · intro w hSw
          go_simp <;> with_reducible rfl
        try simp only [Act.put, List.setIfInBounds_toArray, List.set_cons_zero, List.set_cons_succ]
        refine callAtG 6 55 12 (vals := #[.pointer (some ⟨t, 0, none⟩), .int .u8 (nm : Int), .agg #[.slice a' on c', .bool o.wh]]) (by kernel_rfl) rfl rfl rfl (by rfl) (by simp [Act.eval]) Try.func12 (by kernel_rfl) (by kernel_rfl) ?_
        refine Calls.mono (HC1.out) ?_
        rintro e z1 ⟨rfl, Z1⟩
        have hz1 := And.intro (Z1.out.2.2.2.1.at (j := 1) rfl) (And.intro (Z1.out.2.2.2.1.at (j := 2) rfl) (And.intro (Z1.out.2.2.2.1.at (j := 3) rfl) (And.intro (Z1.out.2.2.2.2.1.at (j := 0) rfl) (Z1.out.2.2.2.2.1.at (j := 1) rfl))))
        have HC3 : Hid _ := HC2.out z1 Z1.out
        clear HC1 HC2
        refine ⟨_, rfl, hz1, fun hHeld => ?_⟩
        try simp only [Act.put, List.setIfInBounds_toArray, List.set_cons_zero, List.set_cons_succ]
        refine takeAt 7 (some 56) ?_ rfl rfl (by kernel_rfl) (by kernel_rfl) (by kernel_rfl) (fun _ _ _ h => h) (Or.inl ⟨by rfl, ?_⟩) hHeld ?_
        rotate_left
        · intro w hSw
          go_simp <;> with_reducible rfl
        try simp only [Act.put, List.setIfInBounds_toArray, List.set_cons_zero, List.set_cons_succ]
        refine callAtG 13 62 24 (vals := #[.pointer (some ⟨t2, 0, none⟩), .int .u8 (nm : Int), .agg #[.slice oa on oc, .bool o.wh]]) (by kernel_rfl) rfl rfl rfl (by rfl) (by simp [Act.eval]) Try.func24 (by kernel_rfl) (by kernel_rfl) ?_
        refine Calls.mono (HC3.out) ?_
        rintro e z2 ⟨rfl, Z2⟩
        have hz2 := And.intro (Z2.out.2.2.2.at (j := 1) rfl) (And.intro (Z2.out.2.2.2.at (j := 2) rfl) (And.intro (Z2.out.2.2.2.at (j := 3) rfl) (And.intro (Z2.out.2.1.at (j := 0) rfl) (Z2.out.2.1.at (j := 1) rfl))))
        clear HC3 Z1
        refine ⟨_, rfl, hz2, fun hHeld => ?_⟩
        try simp only [Act.put, List.setIfInBounds_toArray, List.set_cons_zero, List.set_cons_succ]
        refine takeAt 14 (some 63) ?_ rfl rfl (by kernel_rfl) (by kernel_rfl) (by kernel_rfl) (fun _ _ _ h => h) (Or.inl ⟨by rfl, ?_⟩) hHeld ?_
        rotate_left
        · intro w hSw
          go_simp <;> with_reducible rfl
        try simp only [Act.put, List.setIfInBounds_toArray, List.set_cons_zero, List.set_cons_succ]
        refine takeAt 15 (some 64) ?_ rfl rfl (by kernel_rfl) (by kernel_rfl) (by kernel_rfl) (fun _ _ _ h => h) (Or.inl ⟨by rfl, ?_⟩) hHeld ?_
        rotate_left
        · intro w hSw
          go_simp <;> with_reducible rfl
        try simp only [Act.put, List.setIfInBounds_toArray, List.set_cons_zero, List.set_cons_succ]
        refine takeAt 16 (some 8) ?_ rfl rfl (by kernel_rfl) (by kernel_rfl) (by kernel_rfl) (fun _ _ _ h => h) (Or.inl ⟨by rfl, ?_⟩) hHeld ?_
        rotate_left
        · intro w hSw
          go_simp <;> with_reducible rfl
        try simp only [Act.put, List.setIfInBounds_toArray, List.set_cons_zero, List.set_cons_succ]
        refine wpAnyH_done (by kernel_rfl) ?_ _
        refine NoPanic.normal ?_
        clear s1 s2 s3 s4 s5 hz1 hz2 hEw
        go_wp2_with fail
        go_meet
        exact ⟨t, b, _, rfl, rfl, Z2.out.1, Z2.out.2.1, Z2.out.2.2.1⟩
      · have hmt' : (kd : Int).tmod 6 = 2 := hmt
        clear hmt
        have HC1 : Hid _ := HYK.out 14 (cutF F (nm : Int) o) fun X h hp hs => cut_any h hp (by omega) (by omega) hs (fit_sz HO.out.2.1)
        have HC2 : Hid _ := HYR.out 20 (cutF F (nm : Int) o) fun X h hp hs => rcut_any h hp hnm hs HO.out.2.1
        clear HYK HYR
        generalize layE F (nm : Int) o = E at *
        go_upto_region 17 with fail
        refine wp_region_noPanic ?_
        refine wp_region_held_drew (S := fun z => z.cell? ⟨B6, 1, none⟩ = some (.int .u8 (nm : Int)) ∧ z.cell? ⟨B6, 2, none⟩ = some (.slice oa on oc) ∧ z.cell? ⟨B6, 3, none⟩ = some (.bool o.wh) ∧ z.cell? ⟨B7, 0, none⟩ = some (.slice a' on c') ∧ z.cell? ⟨B7, 1, none⟩ = some (.bool o.wh)) (by kernel_rfl) (⟨s1, s2, s3, s4, s5⟩) (fun hHeld => ?_)
        refine takeAt 0 (some 68) ?_ rfl rfl (by kernel_rfl) (by kernel_rfl) (by kernel_rfl) (fun _ _ _ h => h) (Or.inl ⟨by rfl, ?_⟩) hHeld ?_
        rotate_left
        · intro w hSw
          go_simp <;> with_reducible rfl
        try simp only [Act.put, List.setIfInBounds_toArray, List.set_cons_zero, List.set_cons_succ]
        refine takeAt 1 (some 69) ?_ rfl rfl (by kernel_rfl) (by kernel_rfl) (by kernel_rfl) (fun _ _ _ h => h) (Or.inl ⟨by rfl, ?_⟩) hHeld ?_
        rotate_left
        · intro w hSw
          go_simp <;> with_reducible rfl
        try simp only [Act.put, List.setIfInBounds_toArray, List.set_cons_zero, List.set_cons_succ]
        refine takeAt 2 (some 70) ?_ rfl rfl (by kernel_rfl) (by kernel_rfl) (by kernel_rfl) (fun _ _ _ h => h) (Or.inl ⟨by rfl, ?_⟩) hHeld ?_
        rotate_left
        · intro w hSw
          go_simp <;> with_reducible rfl
        try simp only [Act.put, List.setIfInBounds_toArray, List.set_cons_zero, List.set_cons_succ]
        refine takeAt 3 (some 71) ?_ rfl rfl (by kernel_rfl) (by kernel_rfl) (by kernel_rfl) (fun _ _ _ h => h) (Or.inl ⟨by rfl, ?_⟩) hHeld ?_
        rotate_left
        · intro w hSw
          go_simp <;> with_reducible rfl
        try simp only [Act.put, List.setIfInBounds_toArray, List.set_cons_zero, List.set_cons_succ]
        refine takeAt 4 (some 72) ?_ rfl rfl (by kernel_rfl) (by kernel_rfl) (by kernel_rfl) (fun _ _ _ h => h) (Or.inl ⟨by rfl, ?_⟩) hHeld ?_
        rotate_left
        · intro w hSw
          go_simp <;> with_reducible rfl
        try simp only [Act.put, List.setIfInBounds_toArray, List.set_cons_zero, List.set_cons_succ]
        refine takeAt 5 (some 73) ?_ rfl rfl (by kernel_rfl) (by kernel_rfl) (by kernel_rfl) (fun _ _ _ h => h) (Or.inl ⟨by rfl, ?_⟩) hHeld ?_
        rotate_left
        · intro w hSw
          go_simp <;> with_reducible rfl
        try simp only [Act.put, List.setIfInBounds_toArray, List.set_cons_zero, List.set_cons_succ]
        refine takeAt 8 (some 76) ?_ rfl rfl (by kernel_rfl) (by kernel_rfl) (by kernel_rfl) (fun _ _ _ h => h) (Or.inl ⟨by rfl, ?_⟩) hHeld ?_
        rotate_left
        · intro w hSw
          go_simp <;> with_reducible rfl
        try simp only [Act.put, List.setIfInBounds_toArray, List.set_cons_zero, List.set_cons_succ]
        refine takeAt 9 (some 77) ?_ rfl rfl (by kernel_rfl) (by kernel_rfl) (by kernel_rfl) (fun _ _ _ h => h) (Or.inl ⟨by rfl, ?_⟩) hHeld ?_
        rotate_left
        · intro w hSw
          go_simp <;> with_reducible rfl
        try simp only [Act.put, List.setIfInBounds_toArray, List.set_cons_zero, List.set_cons_succ]
        refine takeAt 10 (some 78) ?_ rfl rfl (by kernel_rfl) (by kernel_rfl) (by kernel_rfl) (fun _ _ _ h => h) (Or.inl ⟨by rfl, ?_⟩) hHeld ?_
        rotate_left
        · intro w hSw
          go_simp <;> with_reducible rfl
        try simp only [Act.put, List.setIfInBounds_toArray, List.set_cons_zero, List.set_cons_succ]
        refine takeAt 11 (some 79) ?_ rfl rfl (by kernel_rfl) (by kernel_rfl) (by kernel_rfl) (fun _ _ _ h => h) (Or.inl ⟨by rfl, ?_⟩) hHeld ?_
        rotate_left
        · intro w hSw
          go_simp <;> with_reducible rfl
        try simp only [Act.put, List.setIfInBounds_toArray, List.set_cons_zero, List.set_cons_succ]
        refine takeAt 12 (some 80) ?_ rfl rfl (by kernel_rfl) (by kernel_rfl) (by kernel_rfl) (fun _ _ _ h => h) (Or.inl ⟨by rfl, ?_⟩) hHeld ?_
        rotate_left
        · intro w hSw
          go_simp <;> with_reducible rfl
        try simp only [Act.put, List.setIfInBounds_toArray, List.set_cons_zero, List.set_cons_succ]
        refine callAtG 6 74 14 (vals := #[.pointer (some ⟨t, 0, none⟩), .int .u8 (nm : Int), .agg #[.slice a' on c', .bool o.wh]]) (by kernel_rfl) rfl rfl rfl (by rfl) (by simp [Act.eval]) Try.func14 (by kernel_rfl) (by kernel_rfl) ?_
        refine Calls.mono (HC1.out) ?_
        rintro e z1 ⟨rfl, Z1⟩
        have hz1 := And.intro (Z1.out.2.2.2.1.at (j := 1) rfl) (And.intro (Z1.out.2.2.2.1.at (j := 2) rfl) (And.intro (Z1.out.2.2.2.1.at (j := 3) rfl) (And.intro (Z1.out.2.2.2.2.1.at (j := 0) rfl) (Z1.out.2.2.2.2.1.at (j := 1) rfl))))
        have HC3 : Hid _ := HC2.out z1 Z1.out
        clear HC1 HC2
        refine ⟨_, rfl, hz1, fun hHeld => ?_⟩
        try simp only [Act.put, List.setIfInBounds_toArray, List.set_cons_zero, List.set_cons_succ]
        refine takeAt 7 (some 75) ?_ rfl rfl (by kernel_rfl) (by kernel_rfl) (by kernel_rfl) (fun _ _ _ h => h) (Or.inl ⟨by rfl, ?_⟩) hHeld ?_
        rotate_left
        · intro w hSw
          go_simp <;> with_reducible rfl
        try simp only [Act.put, List.setIfInBounds_toArray, List.set_cons_zero, List.set_cons_succ]
        refine callAtG 13 81 20 (vals := #[.pointer (some ⟨t2, 0, none⟩), .int .u8 (nm : Int), .agg #[.slice oa on oc, .bool o.wh]]) (by kernel_rfl) rfl rfl rfl (by rfl) (by simp [Act.eval]) Try.func20 (by kernel_rfl) (by kernel_rfl) ?_
        refine Calls.mono (HC3.out) ?_
        rintro e z2 ⟨rfl, Z2⟩
        have hz2 := And.intro (Z2.out.2.2.2.at (j := 1) rfl) (And.intro (Z2.out.2.2.2.at (j := 2) rfl) (And.intro (Z2.out.2.2.2.at (j := 3) rfl) (And.intro (Z2.out.2.1.at (j := 0) rfl) (Z2.out.2.1.at (j := 1) rfl))))
        clear HC3 Z1
        refine ⟨_, rfl, hz2, fun hHeld => ?_⟩
        try simp only [Act.put, List.setIfInBounds_toArray, List.set_cons_zero, List.set_cons_succ]
        refine takeAt 14 (some 82) ?_ rfl rfl (by kernel_rfl) (by kernel_rfl) (by kernel_rfl) (fun _ _ _ h => h) (Or.inl ⟨by rfl, ?_⟩) hHeld ?_
        rotate_left
        · intro w hSw
          go_simp <;> with_reducible rfl
        try simp only [Act.put, List.setIfInBounds_toArray, List.set_cons_zero, List.set_cons_succ]
        refine takeAt 15 (some 83) ?_ rfl rfl (by kernel_rfl) (by kernel_rfl) (by kernel_rfl) (fun _ _ _ h => h) (Or.inl ⟨by rfl, ?_⟩) hHeld ?_
        rotate_left
        · intro w hSw
          go_simp <;> with_reducible rfl
        try simp only [Act.put, List.setIfInBounds_toArray, List.set_cons_zero, List.set_cons_succ]
        refine takeAt 16 (some 8) ?_ rfl rfl (by kernel_rfl) (by kernel_rfl) (by kernel_rfl) (fun _ _ _ h => h) (Or.inl ⟨by rfl, ?_⟩) hHeld ?_
        rotate_left
        · intro w hSw
          go_simp <;> with_reducible rfl
        try simp only [Act.put, List.setIfInBounds_toArray, List.set_cons_zero, List.set_cons_succ]
        refine wpAnyH_done (by kernel_rfl) ?_ _
        refine NoPanic.normal ?_
        clear s1 s2 s3 s4 s5 hz1 hz2 hEw
        go_wp2_with fail
        go_meet
        exact ⟨t, b, _, rfl, rfl, Z2.out.1, Z2.out.2.1, Z2.out.2.2.1⟩
      · have hmt' : (kd : Int).tmod 6 = 3 := hmt
        clear hmt
        have HC1 : Hid _ := HYK.out 14 (cutF F (nm : Int) o) fun X h hp hs => cut_any h hp (by omega) (by omega) hs (fit_sz HO.out.2.1)
        have HC2 : Hid _ := HYR.out 20 (cutF F (nm : Int) o) fun X h hp hs => rcut_any h hp hnm hs HO.out.2.1
        clear HYK HYR
        generalize layE F (nm : Int) o = E at *
        go_upto_region 17 with fail
        refine wp_region_noPanic ?_
        refine wp_region_held_drew (S := fun z => z.cell? ⟨B6, 1, none⟩ = some (.int .u8 (nm : Int)) ∧ z.cell? ⟨B6, 2, none⟩ = some (.slice oa on oc) ∧ z.cell? ⟨B6, 3, none⟩ = some (.bool o.wh) ∧ z.cell? ⟨B7, 0, none⟩ = some (.slice a' on c') ∧ z.cell? ⟨B7, 1, none⟩ = some (.bool o.wh)) (by kernel_rfl) (⟨s1, s2, s3, s4, s5⟩) (fun hHeld => ?_)
        refine takeAt 0 (some 68) ?_ rfl rfl (by kernel_rfl) (by kernel_rfl) (by kernel_rfl) (fun _ _ _ h => h) (Or.inl ⟨by rfl, ?_⟩) hHeld ?_
        rotate_left
        · intro w hSw
          go_simp <;> with_reducible rfl
        try simp only [Act.put, List.setIfInBounds_toArray, List.set_cons_zero, List.set_cons_succ]
        refine takeAt 1 (some 69) ?_ rfl rfl (by kernel_rfl) (by kernel_rfl) (by kernel_rfl) (fun _ _ _ h => h) (Or.inl ⟨by rfl, ?_⟩) hHeld ?_
        rotate_left
        · intro w hSw
          go_simp <;> with_reducible rfl
        try simp only [Act.put, List.setIfInBounds_toArray, List.set_cons_zero, List.set_cons_succ]
        refine takeAt 2 (some 70) ?_ rfl rfl (by kernel_rfl) (by kernel_rfl) (by kernel_rfl) (fun _ _ _ h => h) (Or.inl ⟨by rfl, ?_⟩) hHeld ?_
        rotate_left
        · intro w hSw
          go_simp <;> with_reducible rfl
        try simp only [Act.put, List.setIfInBounds_toArray, List.set_cons_zero, List.set_cons_succ]
        refine takeAt 3 (some 71) ?_ rfl rfl (by kernel_rfl) (by kernel_rfl) (by kernel_rfl) (fun _ _ _ h => h) (Or.inl ⟨by rfl, ?_⟩) hHeld ?_
        rotate_left
        · intro w hSw
          go_simp <;> with_reducible rfl
        try simp only [Act.put, List.setIfInBounds_toArray, List.set_cons_zero, List.set_cons_succ]
        refine takeAt 4 (some 72) ?_ rfl rfl (by kernel_rfl) (by kernel_rfl) (by kernel_rfl) (fun _ _ _ h => h) (Or.inl ⟨by rfl, ?_⟩) hHeld ?_
        rotate_left
        · intro w hSw
          go_simp <;> with_reducible rfl
        try simp only [Act.put, List.setIfInBounds_toArray, List.set_cons_zero, List.set_cons_succ]
        refine takeAt 5 (some 73) ?_ rfl rfl (by kernel_rfl) (by kernel_rfl) (by kernel_rfl) (fun _ _ _ h => h) (Or.inl ⟨by rfl, ?_⟩) hHeld ?_
        rotate_left
        · intro w hSw
          go_simp <;> with_reducible rfl
        try simp only [Act.put, List.setIfInBounds_toArray, List.set_cons_zero, List.set_cons_succ]
        refine takeAt 8 (some 76) ?_ rfl rfl (by kernel_rfl) (by kernel_rfl) (by kernel_rfl) (fun _ _ _ h => h) (Or.inl ⟨by rfl, ?_⟩) hHeld ?_
        rotate_left
        · intro w hSw
          go_simp <;> with_reducible rfl
        try simp only [Act.put, List.setIfInBounds_toArray, List.set_cons_zero, List.set_cons_succ]
        refine takeAt 9 (some 77) ?_ rfl rfl (by kernel_rfl) (by kernel_rfl) (by kernel_rfl) (fun _ _ _ h => h) (Or.inl ⟨by rfl, ?_⟩) hHeld ?_
        rotate_left
        · intro w hSw
          go_simp <;> with_reducible rfl
        try simp only [Act.put, List.setIfInBounds_toArray, List.set_cons_zero, List.set_cons_succ]
        refine takeAt 10 (some 78) ?_ rfl rfl (by kernel_rfl) (by kernel_rfl) (by kernel_rfl) (fun _ _ _ h => h) (Or.inl ⟨by rfl, ?_⟩) hHeld ?_
        rotate_left
        · intro w hSw
          go_simp <;> with_reducible rfl
        try simp only [Act.put, List.setIfInBounds_toArray, List.set_cons_zero, List.set_cons_succ]
        refine takeAt 11 (some 79) ?_ rfl rfl (by kernel_rfl) (by kernel_rfl) (by kernel_rfl) (fun _ _ _ h => h) (Or.inl ⟨by rfl, ?_⟩) hHeld ?_
        rotate_left
        · intro w hSw
          go_simp <;> with_reducible rfl
        try simp only [Act.put, List.setIfInBounds_toArray, List.set_cons_zero, List.set_cons_succ]
        refine takeAt 12 (some 80) ?_ rfl rfl (by kernel_rfl) (by kernel_rfl) (by kernel_rfl) (fun _ _ _ h => h) (Or.inl ⟨by rfl, ?_⟩) hHeld ?_
        rotate_left
        · intro w hSw
          go_simp <;> with_reducible rfl
        try simp only [Act.put, List.setIfInBounds_toArray, List.set_cons_zero, List.set_cons_succ]
        refine callAtG 6 74 14 (vals := #[.pointer (some ⟨t, 0, none⟩), .int .u8 (nm : Int), .agg #[.slice a' on c', .bool o.wh]]) (by kernel_rfl) rfl rfl rfl (by rfl) (by simp [Act.eval]) Try.func14 (by kernel_rfl) (by kernel_rfl) ?_
        refine Calls.mono (HC1.out) ?_
        rintro e z1 ⟨rfl, Z1⟩
        have hz1 := And.intro (Z1.out.2.2.2.1.at (j := 1) rfl) (And.intro (Z1.out.2.2.2.1.at (j := 2) rfl) (And.intro (Z1.out.2.2.2.1.at (j := 3) rfl) (And.intro (Z1.out.2.2.2.2.1.at (j := 0) rfl) (Z1.out.2.2.2.2.1.at (j := 1) rfl))))
        have HC3 : Hid _ := HC2.out z1 Z1.out
        clear HC1 HC2
        refine ⟨_, rfl, hz1, fun hHeld => ?_⟩
        try simp only [Act.put, List.setIfInBounds_toArray, List.set_cons_zero, List.set_cons_succ]
        refine takeAt 7 (some 75) ?_ rfl rfl (by kernel_rfl) (by kernel_rfl) (by kernel_rfl) (fun _ _ _ h => h) (Or.inl ⟨by rfl, ?_⟩) hHeld ?_
        rotate_left
        · intro w hSw
          go_simp <;> with_reducible rfl
        try simp only [Act.put, List.setIfInBounds_toArray, List.set_cons_zero, List.set_cons_succ]
        refine callAtG 13 81 20 (vals := #[.pointer (some ⟨t2, 0, none⟩), .int .u8 (nm : Int), .agg #[.slice oa on oc, .bool o.wh]]) (by kernel_rfl) rfl rfl rfl (by rfl) (by simp [Act.eval]) Try.func20 (by kernel_rfl) (by kernel_rfl) ?_
        refine Calls.mono (HC3.out) ?_
        rintro e z2 ⟨rfl, Z2⟩
        have hz2 := And.intro (Z2.out.2.2.2.at (j := 1) rfl) (And.intro (Z2.out.2.2.2.at (j := 2) rfl) (And.intro (Z2.out.2.2.2.at (j := 3) rfl) (And.intro (Z2.out.2.1.at (j := 0) rfl) (Z2.out.2.1.at (j := 1) rfl))))
        clear HC3 Z1
        refine ⟨_, rfl, hz2, fun hHeld => ?_⟩
        try simp only [Act.put, List.setIfInBounds_toArray, List.set_cons_zero, List.set_cons_succ]
        refine takeAt 14 (some 82) ?_ rfl rfl (by kernel_rfl) (by kernel_rfl) (by kernel_rfl) (fun _ _ _ h => h) (Or.inl ⟨by rfl, ?_⟩) hHeld ?_
        rotate_left
        · intro w hSw
          go_simp <;> with_reducible rfl
        try simp only [Act.put, List.setIfInBounds_toArray, List.set_cons_zero, List.set_cons_succ]
        refine takeAt 15 (some 83) ?_ rfl rfl (by kernel_rfl) (by kernel_rfl) (by kernel_rfl) (fun _ _ _ h => h) (Or.inl ⟨by rfl, ?_⟩) hHeld ?_
        rotate_left
        · intro w hSw
          go_simp <;> with_reducible rfl
        try simp only [Act.put, List.setIfInBounds_toArray, List.set_cons_zero, List.set_cons_succ]
        refine takeAt 16 (some 8) ?_ rfl rfl (by kernel_rfl) (by kernel_rfl) (by kernel_rfl) (fun _ _ _ h => h) (Or.inl ⟨by rfl, ?_⟩) hHeld ?_
        rotate_left
        · intro w hSw
          go_simp <;> with_reducible rfl
        try simp only [Act.put, List.setIfInBounds_toArray, List.set_cons_zero, List.set_cons_succ]
        refine wpAnyH_done (by kernel_rfl) ?_ _
        refine NoPanic.normal ?_
        clear s1 s2 s3 s4 s5 hz1 hz2 hEw
        go_wp2_with fail
        go_meet
        exact ⟨t, b, _, rfl, rfl, Z2.out.1, Z2.out.2.1, Z2.out.2.2.1⟩
      · have hmt' : (kd : Int).tmod 6 = 4 := hmt
        clear hmt HYK HYR hEw
        obtain ⟨R9, hR9⟩ : ∃ R9, getR F (nm : Int) = R9 := ⟨_, rfl⟩
        obtain ⟨E9, hE9⟩ : ∃ E9, getE F (nm : Int) = E9 := ⟨_, rfl⟩
        have hEw := get_conv F (nm : Int)
        rw [hE9] at hEw
        have h9 := HS7.out
        have HG1 : Hid _ := get_some h9.1.rs (x := (nm : Int)) (by omega) (by omega) hR9 hE9
        have HG2 : Hid (∀ X, Kp x9 X → Calls Try.prog 21 #[.pointer (some ⟨t2, 0, none⟩), .int .u8 (nm : Int)] X fun e w' => ∃ a n c, e = .returned (.tuple #[.agg #[.slice a n c, .bool R9.wh], .int .i64 E9]) ∧ Hid (Row X.heap.size (.slice a n c) R9.ls w' ∧ Kp X w')) := fun X k => by
          refine (rget_any (h9.1.rr.kp k) hnm).mono ?_
          rintro e w' ⟨v', he, q1, q2⟩
          rw [hR9, hE9] at he
          rw [hR9] at q1
          obtain ⟨a, c, rfl, _, _⟩ := q1.form
          exact ⟨a, _, c, he, q1, q2⟩
        have HRZ : Hid (szL R9.ls ≤ 20000) := by
          show _ ≤ _
          rw [← hR9]; unfold getR; split
          · cases q : F (smI (nm : Int)) with
            | none => simp [szL]
            | some z => exact (h9.1.rs.ok _ _ q).2
          · simp [szL]
        have p1 := h9.2.1.at (j := 1) rfl
        clear hR9 hE9 h9 s1 s2 s3 s4 s5
        go_wp2_with fail
        refine Calls.mono HG1.out ?_
        rintro e z1 ⟨a9, n9, c9, rfl, qn9, hn9, hn9', Z1⟩
        have HN9 : Hid (n9 = R9.ls.length) := qn9
        clear HG1 qn9
        obtain ⟨V1, hV1⟩ : ∃ V1, z1.alloc (.cells #[.slice a9 n9 c9, .bool R9.wh] 24) = V1 := ⟨_, rfl⟩
        have kv1 : Kp x9 V1 := by rw [← hV1]; exact kp_trans Z1.out.2 (kp_alloc _ _)
        have bv1 : Lc 24 z1.heap.size [.slice a9 n9 c9, .bool R9.wh] V1 := by rw [← hV1]; exact Lc.new z1 _ _
        have rv1 : Row x9.heap.size (.slice a9 n9 c9) R9.ls V1 := by
          have := row_kp Z1.out.1 (kp_alloc z1 (.cells #[.slice a9 n9 c9, .bool R9.wh] 24))
          rw [hV1] at this; exact this
        obtain ⟨B9, hB9⟩ : ∃ B9, z1.heap.size = B9 := ⟨_, rfl⟩
        rw [hB9] at bv1
        have HV1 : Hid (Lc 24 B9 [.slice a9 n9 c9, .bool R9.wh] V1 ∧ Row x9.heap.size (.slice a9 n9 c9) R9.ls V1 ∧ Kp x9 V1) := ⟨bv1, rv1, kv1⟩
        have HG3 : Hid _ := HG2.out V1 kv1
        replace p1 := kp_cell kv1 p1
        have HW : Hid (_ = V1) := hV1
        clear hV1 kv1 bv1 rv1 Z1 HG2
        go_upto_region 20 with fail
        rw [HW.out]
        clear HW hB9
        go_wp2_with fail
        refine Calls.mono HG3.out ?_
        rintro e z2 ⟨a8, n8, c8, rfl, Z2⟩
        clear HG3 p1
        obtain ⟨V2, hV2⟩ : ∃ V2, z2.alloc (.cells #[.slice a8 n8 c8, .bool R9.wh] 24) = V2 := ⟨_, rfl⟩
        have kv2 : Kp V1 V2 := by rw [← hV2]; exact kp_trans Z2.out.2 (kp_alloc _ _)
        have bv2 : Lc 24 z2.heap.size [.slice a8 n8 c8, .bool R9.wh] V2 := by rw [← hV2]; exact Lc.new z2 _ _
        have sv2 : Sl Anyw (.slice a8 n8 c8) R9.ls V2 := by
          have := ((Sl.of_row Z2.out.1).mono (Q := Anyw) fun _ _ _ => trivial).kp (kp_alloc z2 (.cells #[.slice a8 n8 c8, .bool R9.wh] 24))
          rw [hV2] at this; exact this
        have HSA : Hid (Calls Try.prog 22 #[.agg #[.slice a9 n9 c9, .bool R9.wh], .agg #[.slice a8 n8 c8, .bool R9.wh]] V2 fun e w' => e = .returned (.bool true) ∧ Kp V2 w') := same_any (((Sl.of_row HV1.out.2.1).mono (Q := Anyw) fun _ _ _ => trivial).kp kv2) sv2
        have r1 := (HV1.out.1.kp kv2).at (j := 0) rfl
        have r2 := (HV1.out.1.kp kv2).at (j := 1) rfl
        have r3 := bv2.at (j := 0) rfl
        have r4 := bv2.at (j := 1) rfl
        obtain ⟨B11, hB11⟩ : ∃ B11, z2.heap.size = B11 := ⟨_, rfl⟩
        rw [hB11] at r3 r4
        have HV2 : Hid (Kp V1 V2) := kv2
        have HW : Hid (_ = V2) := hV2
        clear hV2 kv2 bv2 sv2 Z2
        go_upto_region 21 with fail
        rw [HW.out]
        clear HW hB11
        go_wp2_with fail
        refine Calls.mono HSA.out ?_
        rintro e z3 ⟨rfl, kz3⟩
        have k3 : Kp V1 z3 := kp_trans HV2.out kz3
        have HBX : Hid (Lc 24 B9 [.slice a9 n9 c9, .bool R9.wh] z3) := HV1.out.1.kp k3
        have HRW : Hid (Row x9.heap.size (.slice a9 n9 c9) R9.ls z3) := row_kp HV1.out.2.1 k3
        have HSZ : Hid (∀ (j : Nat) (s : ByteArray), R9.ls[j]? = some s → s.size ≤ 4194304) := fun j s hj => by
          have h1 := szL_take R9.ls hj
          have h2 := szL_le R9.ls (j + 1)
          have := HRZ.out
          omega
        have HFI : Hid (∀ X, Fr (fun j => (Value.slice a9 n9 c9).ownBlock = some j) z3 X → Bth w t2 t b F (Pv (.slice a' on c')) X ∧ Lc 24 B7 [.slice a' on c', .bool o.wh] X ∧ Row w.heap.size (.slice a' on c') o.ls X) := fun X hf => by
          have kx : Kp x9 z3 := kp_trans HV1.out.2.2 k3
          have h9 := HS7.out
          have hBm := (h9.1.mono (Q := Pw (.slice a' on c') (.slice a9 n9 c9)) fun k hk hp => ⟨hp, fun e => by have := (HRW.out.lt k e).1; omega⟩).kp_ kx
          have hs := hBm.rs.own_off HRW.out (fun g q => q.2) hf
          have hr := hBm.rr.own_off HRW.out (fun g q => q.2) hf
          refine ⟨⟨hs.mono fun k _ q => q.1, hr.mono fun k _ q => q.1, ?_, hBm.hb⟩, ?_, ?_⟩
          · exact hBm.kp.trans (hf.below hBm.kp.size fun k hk e => by have := (HRW.out.lt k e).1; have := h9.1.kp.size; omega)
          · exact (h9.2.2.1.kp kx).fr hf (row_ne HRW.out (h9.2.2.1.kp kx) (by decide))
          · exact row_fr (row_kp h9.2.2.2.1 kx) hf fun j hj e => by have := (HRW.out.lt j e).1; have := (h9.2.2.2.1.lt j hj).2; omega
        have hn920 : n9 ≤ 20000 := by have := HN9.out; have := HRZ.out; have := szL_len R9.ls; omega
        have HL9 : Hid (R9.ls.length = n9) := HN9.out.symm
        clear HSA r1 r2 r3 r4 kz3 k3 HV1 HV2 HRZ hEw HN9 HS7
        go_wp2_with fail
        go_loopw [13] (fun vi wr => ∃ (k : Nat) (ms : List ByteArray), k ≤ n9 ∧ vi = .int .i64 k ∧ Hid (Row x9.heap.size (Value.slice a9 n9 c9) ms wr ∧ ms.length = n9 ∧ (∀ j, k ≤ j → ms[j]? = R9.ls[j]?) ∧ Fr (fun j => (Value.slice a9 n9 c9).ownBlock = some j) z3 wr)) (fun vi _ => n9 - (intOf vi).toNat)
        case atStart => exact ⟨0, R9.ls, Nat.zero_le _, rfl, HRW.out, HL9.out, (fun _ _ => rfl), Fr.refl _ _⟩
        case round =>
          obtain ⟨k, ms, hk, rfl, HM⟩ := hrel
          have bx := HBX.out.fr HM.out.2.2.2 (row_ne HRW.out HBX.out (by decide))
          by_cases hkn : k < n9
          · have dk : decide ((k : Int) < (n9 : Int)) = true := decide_eq_true (by omega)
            have dk2 : decide (k < n9) = true := decide_eq_true (by omega)
            have dk3 : (k : Int) < (n9 : Int) := by omega
            obtain ⟨sx, hsx⟩ : ∃ s, ms[k]? = some s := ⟨_, List.getElem?_eq_getElem (by rw [HM.out.2.1]; exact hkn)⟩
            obtain ⟨gg, ha, hg1, hg2, qn, hgc, hgf⟩ := HM.out.1.head (by rw [HM.out.2.1]; omega)
            have cc := hgc k sx hsx
            have fz := hgf k
            have hsz : sx.size ≤ 4194304 := by
              have h1 := HM.out.2.2.1 k (Nat.le_refl _)
              rw [hsx] at h1
              exact HSZ.out k sx h1.symm
            have had : ∀ z : World, (Op.stringOp .add sx ⟨#[33]⟩).run Try.prog z = .ok (.string (sx ++ ⟨#[33]⟩)) z := fun z => run_string_add_sum z _ _ (by show sx.size + 1 ≤ _; omega)
            have ub := bx.at (j := 0) rfl
            have bxd := bx.kp (kp_drew wr)
            have hne : B9 ≠ gg := fun e => row_ne HM.out.1 bx (by decide) (by rw [ha, e]; rfl)
            have HM2 : Hid (Row x9.heap.size (Value.slice a9 n9 c9) (ms.set k (sx ++ ⟨#[33]⟩)) ((wr.setCell ⟨gg, k, none⟩ (.string (sx ++ ⟨#[33]⟩))).drew) ∧ (ms.set k (sx ++ ⟨#[33]⟩)).length = n9 ∧ (∀ j, k + 1 ≤ j → (ms.set k (sx ++ ⟨#[33]⟩))[j]? = R9.ls[j]?) ∧ Fr (fun j => (Value.slice a9 n9 c9).ownBlock = some j) z3 ((wr.setCell ⟨gg, k, none⟩ (.string (sx ++ ⟨#[33]⟩))).drew)) := by
              have hst := mut_step HM.out.2.1 hkn HM.out.2.2.1 (sx ++ ⟨#[33]⟩)
              have hrow := HM.out.1
              rw [ha] at hrow
              refine ⟨?_, hst.1, hst.2, (HM.out.2.2.2.trans (Fr.setCell (by rw [ha]; rfl) wr)).trans (Fr.of_below (kp_drew _))⟩
              rw [ha]
              exact row_kp (hrow.set (by rw [HM.out.2.1]; exact hkn) _) (kp_drew _)
            subst ha
            generalize sx ++ ⟨#[33]⟩ = sy at *
            clear hgc hgf qn hsx hsz HM bx hg1 hg2
            go_upto_region 25 with fail
            refine wp_region_noPanic ?_
            refine wp_region_held_drew (S := fun z => z.cell? ⟨B9, 0, none⟩ = some (Value.slice (some ⟨gg, 0, none⟩) n9 c9)) (by kernel_rfl) (bxd.at (j := 0) rfl) (fun hHeld => ?_)
            refine takeAt 0 (some 119) ?_ rfl rfl (by kernel_rfl) (by kernel_rfl) (by kernel_rfl) (fun _ _ _ h => h) (Or.inl ⟨by rfl, ?_⟩) hHeld ?_
            rotate_left
            · intro w hSw
              go_simp <;> with_reducible rfl
            try simp only [Act.put, List.setIfInBounds_toArray, List.set_cons_zero, List.set_cons_succ]
            refine takeAt 1 (some 120) ?_ rfl rfl (by kernel_rfl) (by kernel_rfl) (by kernel_rfl) (fun _ _ _ h => h) (Or.inl ⟨by rfl, ?_⟩) hHeld ?_
            rotate_left
            · intro w hSw
              go_simp <;> with_reducible rfl
            try simp only [Act.put, List.setIfInBounds_toArray, List.set_cons_zero, List.set_cons_succ]
            refine takeAt 2 (some 121) ?_ rfl rfl (by kernel_rfl) (by kernel_rfl) (by kernel_rfl) (fun _ _ _ h => h) (Or.inl ⟨by rfl, ?_⟩) hHeld ?_
            rotate_left
            · intro w hSw
              go_simp <;> with_reducible rfl
            try simp only [Act.put, List.setIfInBounds_toArray, List.set_cons_zero, List.set_cons_succ]
            refine takeAt 3 (some 122) ?_ rfl rfl (by kernel_rfl) (by kernel_rfl) (by kernel_rfl) (fun _ _ _ h => h) (Or.inl ⟨by rfl, ?_⟩) hHeld ?_
            rotate_left
            · intro w hSw
              go_simp <;> with_reducible rfl
            try simp only [Act.put, List.setIfInBounds_toArray, List.set_cons_zero, List.set_cons_succ]
            refine takeAt 4 (some 123) ?_ rfl rfl (by kernel_rfl) (by kernel_rfl) (by kernel_rfl) (fun _ _ _ h => h) (Or.inl ⟨by rfl, ?_⟩) hHeld ?_
            rotate_left
            · intro w hSw
              go_simp <;> with_reducible rfl
            try simp only [Act.put, List.setIfInBounds_toArray, List.set_cons_zero, List.set_cons_succ]
            refine takeAt 5 (some 124) ?_ rfl rfl (by kernel_rfl) (by kernel_rfl) (by kernel_rfl) (fun _ _ _ h => h) (Or.inl ⟨by rfl, ?_⟩) hHeld ?_
            rotate_left
            · intro w hSw
              go_simp <;> with_reducible rfl
            try simp only [Act.put, List.setIfInBounds_toArray, List.set_cons_zero, List.set_cons_succ]
            refine takeAt 6 (some 125) ?_ rfl rfl (by kernel_rfl) (by kernel_rfl) (by kernel_rfl) (fun _ _ _ h => h) (Or.inl ⟨by rfl, ?_⟩) hHeld ?_
            rotate_left
            · intro w hSw
              go_simp <;> with_reducible rfl
            try simp only [Act.put, List.setIfInBounds_toArray, List.set_cons_zero, List.set_cons_succ]
            refine wpAnyH_ready (rs := [7]) (by kernel_rfl) (by simp) ?_
            refine AllReadyH.cons rfl (fun K hK => ?_) AllReadyH.nil
            go_simp
            refine hK.out _ _ (bxd.at (j := 0) rfl) (fun hHeld => ?_)
            clear hK K
            try simp only [Act.put, List.setIfInBounds_toArray, List.set_cons_zero, List.set_cons_succ]
            refine takeAt 8 (some 127) ?_ rfl rfl (by kernel_rfl) (by kernel_rfl) (by kernel_rfl) (fun _ _ _ h => h) (Or.inl ⟨by rfl, ?_⟩) hHeld ?_
            rotate_left
            · intro w hSw
              go_simp <;> with_reducible rfl
            try simp only [Act.put, List.setIfInBounds_toArray, List.set_cons_zero, List.set_cons_succ]
            refine takeAt 9 (some 128) ?_ rfl rfl (by kernel_rfl) (by kernel_rfl) (by kernel_rfl) (fun _ _ _ h => h) (Or.inl ⟨by rfl, ?_⟩) hHeld ?_
            rotate_left
            · intro w hSw
              go_simp <;> with_reducible rfl
            try simp only [Act.put, List.setIfInBounds_toArray, List.set_cons_zero, List.set_cons_succ]
            refine wpAnyH_ready (rs := [10]) (by kernel_rfl) (by simp) ?_
            refine AllReadyH.cons rfl (fun K hK => ?_) AllReadyH.nil
            go_simp
            refine hK.out _ _ ((cell_so (a := ⟨B9, 0, none⟩) hne).trans (bxd.at (j := 0) rfl)) (fun hHeld => ?_)
            clear hK K
            try simp only [Act.put, List.setIfInBounds_toArray, List.set_cons_zero, List.set_cons_succ]
            refine wpAnyH_done (by kernel_rfl) ?_ _
            refine NoPanic.normal ?_
            clear cc fz ub bxd had
            go_wp2_with fail
            go_roundw
            case rel => exact ⟨k + 1, _, by omega, by go_num, HM2.out⟩
            case measure => simp only [intOf]; omega
          · obtain rfl : k = n9 := by omega
            have dk : decide ((k : Int) < (k : Int)) = false := by simp
            have ub := bx.at (j := 0) rfl
            have HE : Hid _ := HFI.out wr HM.out.2.2.2
            clear HM HFI HBX HRW HSZ bx
            go_wp2_with fail
            go_meet
            exact ⟨t, b, _, rfl, rfl, HE.out⟩
      · have hmt' : (kd : Int).tmod 6 = 5 := hmt
        clear hmt HYK HYR hEw
        have h9 := HS7.out
        have HC : Hid (Calls Try.prog 23 #[.pointer (some ⟨t, 0, none⟩)] x9 fun e w' => ∃ t3 b3, e = .returned (.pointer (some ⟨t3, 0, none⟩)) ∧ Hid (Bth w t2 t3 b3 F (Pv (.slice a' on c')) w' ∧ Lc 24 B7 [.slice a' on c', .bool o.wh] w' ∧ Row w.heap.size (.slice a' on c') o.ls w')) := by
          refine (gcopy_any h9.1.rs h9.2.2.2.2).mono ?_
          rintro e w' ⟨t3, b3, he, q1, q2, _, q3⟩
          exact ⟨t3, b3, he, ⟨q1, h9.1.rr.kp q2, kp_trans h9.1.kp q2, Nat.le_trans h9.1.kp.size q3⟩, h9.2.2.1.kp q2, row_kp h9.2.2.2.1 q2⟩
        clear h9 HS7 s1 s2 s3 s4 s5
        go_wp2_with fail
        refine Calls.mono HC.out ?_
        rintro e z1 ⟨t3, b3, rfl, Z1⟩
        have hq := eql_ptrR t3
        clear HC
        go_wp2_with fail
        go_meet
        exact ⟨t3, b3, _, rfl, rfl, Z1.out⟩
    case rest =>
      obtain ⟨t', b', F', rfl, rfl, HX⟩ := hcut
      have HOZ : Hid (szL o.ls ≤ 1048576) := HO.out.2.1
      have HOL : Hid (o.ls.length = on) := HO.out.2.2.symm
      clear HS7 v0 hmt hm6 HO hkd hnm
      have hx := HX.out
      have HBX : Hid (Lc 24 B7 [.slice a' on c', .bool o.wh] wc) := hx.2.1
      have HRW : Hid (Row w.heap.size (.slice a' on c') o.ls wc) := hx.2.2
      have HSZ : Hid (∀ (j : Nat) (s : ByteArray), o.ls[j]? = some s → s.size ≤ 4194304) := fun j s hj => by
        have h1 := szL_take o.ls hj
        have h2 := szL_le o.ls (j + 1)
        have := HOZ.out
        omega
      have HFI : Hid (∀ X, Fr (fun j => (Value.slice a' on c').ownBlock = some j) wc X → Bth w t2 t' b' F' Anyw X) := fun X hf => by
        have hs := hx.1.rs.own_off HRW.out (fun g q => q) hf
        have hr := hx.1.rr.own_off HRW.out (fun g q => q) hf
        exact ⟨hs.mono fun _ _ _ => trivial, hr.mono fun _ _ _ => trivial, hx.1.kp.trans (hf.below hx.1.kp.size fun k hk e => by have := (HRW.out.lt k e).1; omega), hx.1.hb⟩
      clear hx HX
      go_wp2_with fail
      go_loopw [14] (fun vi wr => ∃ (k : Nat) (ms : List ByteArray), k ≤ on ∧ vi = .int .i64 k ∧ Hid (Row w.heap.size (Value.slice a' on c') ms wr ∧ ms.length = on ∧ (∀ j, k ≤ j → ms[j]? = o.ls[j]?) ∧ Fr (fun j => (Value.slice a' on c').ownBlock = some j) wc wr)) (fun vi _ => on - (intOf vi).toNat)
      case atStart => exact ⟨0, o.ls, Nat.zero_le _, rfl, HRW.out, HOL.out, (fun _ _ => rfl), Fr.refl _ _⟩
      case round =>
        obtain ⟨k, ms, hk, rfl, HM⟩ := hrel
        have bx := HBX.out.fr HM.out.2.2.2 (row_ne HRW.out HBX.out (by decide))
        by_cases hkn : k < on
        · have dk : decide ((k : Int) < (on : Int)) = true := decide_eq_true (by omega)
          have dk2 : decide (k < on) = true := decide_eq_true (by omega)
          have dk3 : (k : Int) < (on : Int) := by omega
          obtain ⟨sx, hsx⟩ : ∃ s, ms[k]? = some s := ⟨_, List.getElem?_eq_getElem (by rw [HM.out.2.1]; exact hkn)⟩
          obtain ⟨gg, ha, hg1, hg2, qn, hgc, hgf⟩ := HM.out.1.head (by rw [HM.out.2.1]; omega)
          have cc := hgc k sx hsx
          have fz := hgf k
          have hsz : sx.size ≤ 4194304 := by
            have h1 := HM.out.2.2.1 k (Nat.le_refl _)
            rw [hsx] at h1
            exact HSZ.out k sx h1.symm
          have had : ∀ z : World, (Op.stringOp .add sx ⟨#[33]⟩).run Try.prog z = .ok (.string (sx ++ ⟨#[33]⟩)) z := fun z => run_string_add_sum z _ _ (by show sx.size + 1 ≤ _; omega)
          have ub := bx.at (j := 0) rfl
          have bxd := bx.kp (kp_drew wr)
          have hne : B7 ≠ gg := fun e => row_ne HM.out.1 bx (by decide) (by rw [ha, e]; rfl)
          have HM2 : Hid (Row w.heap.size (Value.slice a' on c') (ms.set k (sx ++ ⟨#[33]⟩)) ((wr.setCell ⟨gg, k, none⟩ (.string (sx ++ ⟨#[33]⟩))).drew) ∧ (ms.set k (sx ++ ⟨#[33]⟩)).length = on ∧ (∀ j, k + 1 ≤ j → (ms.set k (sx ++ ⟨#[33]⟩))[j]? = o.ls[j]?) ∧ Fr (fun j => (Value.slice a' on c').ownBlock = some j) wc ((wr.setCell ⟨gg, k, none⟩ (.string (sx ++ ⟨#[33]⟩))).drew)) := by
            have hst := mut_step HM.out.2.1 hkn HM.out.2.2.1 (sx ++ ⟨#[33]⟩)
            have hrow := HM.out.1
            rw [ha] at hrow
            refine ⟨?_, hst.1, hst.2, (HM.out.2.2.2.trans (Fr.setCell (by rw [ha]; rfl) wr)).trans (Fr.of_below (kp_drew _))⟩
            rw [ha]
            exact row_kp (hrow.set (by rw [HM.out.2.1]; exact hkn) _) (kp_drew _)
          subst ha
          generalize sx ++ ⟨#[33]⟩ = sy at *
          clear hgc hgf qn hsx hsz HM bx hg1 hg2
          go_upto_region 33 with fail
          refine wp_region_noPanic ?_
          refine wp_region_held_drew (S := fun z => z.cell? ⟨B7, 0, none⟩ = some (Value.slice (some ⟨gg, 0, none⟩) on c')) (by kernel_rfl) (bxd.at (j := 0) rfl) (fun hHeld => ?_)
          refine takeAt 0 (some 142) ?_ rfl rfl (by kernel_rfl) (by kernel_rfl) (by kernel_rfl) (fun _ _ _ h => h) (Or.inl ⟨by rfl, ?_⟩) hHeld ?_
          rotate_left
          · intro w hSw
            go_simp <;> with_reducible rfl
          try simp only [Act.put, List.setIfInBounds_toArray, List.set_cons_zero, List.set_cons_succ]
          refine takeAt 1 (some 143) ?_ rfl rfl (by kernel_rfl) (by kernel_rfl) (by kernel_rfl) (fun _ _ _ h => h) (Or.inl ⟨by rfl, ?_⟩) hHeld ?_
          rotate_left
          · intro w hSw
            go_simp <;> with_reducible rfl
          try simp only [Act.put, List.setIfInBounds_toArray, List.set_cons_zero, List.set_cons_succ]
          refine takeAt 2 (some 144) ?_ rfl rfl (by kernel_rfl) (by kernel_rfl) (by kernel_rfl) (fun _ _ _ h => h) (Or.inl ⟨by rfl, ?_⟩) hHeld ?_
          rotate_left
          · intro w hSw
            go_simp <;> with_reducible rfl
          try simp only [Act.put, List.setIfInBounds_toArray, List.set_cons_zero, List.set_cons_succ]
          refine takeAt 3 (some 145) ?_ rfl rfl (by kernel_rfl) (by kernel_rfl) (by kernel_rfl) (fun _ _ _ h => h) (Or.inl ⟨by rfl, ?_⟩) hHeld ?_
          rotate_left
          · intro w hSw
            go_simp <;> with_reducible rfl
          try simp only [Act.put, List.setIfInBounds_toArray, List.set_cons_zero, List.set_cons_succ]
          refine takeAt 4 (some 146) ?_ rfl rfl (by kernel_rfl) (by kernel_rfl) (by kernel_rfl) (fun _ _ _ h => h) (Or.inl ⟨by rfl, ?_⟩) hHeld ?_
          rotate_left
          · intro w hSw
            go_simp <;> with_reducible rfl
          try simp only [Act.put, List.setIfInBounds_toArray, List.set_cons_zero, List.set_cons_succ]
          refine takeAt 5 (some 147) ?_ rfl rfl (by kernel_rfl) (by kernel_rfl) (by kernel_rfl) (fun _ _ _ h => h) (Or.inl ⟨by rfl, ?_⟩) hHeld ?_
          rotate_left
          · intro w hSw
            go_simp <;> with_reducible rfl
          try simp only [Act.put, List.setIfInBounds_toArray, List.set_cons_zero, List.set_cons_succ]
          refine takeAt 6 (some 148) ?_ rfl rfl (by kernel_rfl) (by kernel_rfl) (by kernel_rfl) (fun _ _ _ h => h) (Or.inl ⟨by rfl, ?_⟩) hHeld ?_
          rotate_left
          · intro w hSw
            go_simp <;> with_reducible rfl
          try simp only [Act.put, List.setIfInBounds_toArray, List.set_cons_zero, List.set_cons_succ]
          refine wpAnyH_ready (rs := [7]) (by kernel_rfl) (by simp) ?_
          refine AllReadyH.cons rfl (fun K hK => ?_) AllReadyH.nil
          go_simp
          refine hK.out _ _ (bxd.at (j := 0) rfl) (fun hHeld => ?_)
          clear hK K
          try simp only [Act.put, List.setIfInBounds_toArray, List.set_cons_zero, List.set_cons_succ]
          refine takeAt 8 (some 150) ?_ rfl rfl (by kernel_rfl) (by kernel_rfl) (by kernel_rfl) (fun _ _ _ h => h) (Or.inl ⟨by rfl, ?_⟩) hHeld ?_
          rotate_left
          · intro w hSw
            go_simp <;> with_reducible rfl
          try simp only [Act.put, List.setIfInBounds_toArray, List.set_cons_zero, List.set_cons_succ]
          refine takeAt 9 (some 151) ?_ rfl rfl (by kernel_rfl) (by kernel_rfl) (by kernel_rfl) (fun _ _ _ h => h) (Or.inl ⟨by rfl, ?_⟩) hHeld ?_
          rotate_left
          · intro w hSw
            go_simp <;> with_reducible rfl
          try simp only [Act.put, List.setIfInBounds_toArray, List.set_cons_zero, List.set_cons_succ]
          refine wpAnyH_ready (rs := [10]) (by kernel_rfl) (by simp) ?_
          refine AllReadyH.cons rfl (fun K hK => ?_) AllReadyH.nil
          go_simp
          refine hK.out _ _ ((cell_so (a := ⟨B7, 0, none⟩) hne).trans (bxd.at (j := 0) rfl)) (fun hHeld => ?_)
          clear hK K
          try simp only [Act.put, List.setIfInBounds_toArray, List.set_cons_zero, List.set_cons_succ]
          refine wpAnyH_done (by kernel_rfl) ?_ _
          refine NoPanic.normal ?_
          clear cc fz ub bxd had
          go_wp2_with fail
          go_roundw
          case rel => exact ⟨k + 1, _, by omega, by go_num, HM2.out⟩
          case measure => simp only [intOf]; omega
        · obtain rfl : k = on := by omega
          have dk : decide ((k : Int) < (k : Int)) = false := by simp
          have ub := bx.at (j := 0) rfl
          have HE : Hid _ := HFI.out wr HM.out.2.2.2
          have HA : Hid (Calls Try.prog 25 #[.pointer (some ⟨t', 0, none⟩), .pointer (some ⟨t2, 0, none⟩)] wr fun e w' => e = .returned (.bool true) ∧ Kp wr w') := alike_any HE.out.rs HE.out.rr
          clear HM HFI HBX HRW HSZ bx
          go_wp2_with fail
          refine Calls.mono HA.out ?_
          rintro e z9 ⟨rfl, kz9⟩
          have HE9 : Hid (Bth w t2 t' b' F' Anyw z9) := HE.out.kp_ kz9
          clear HA HE kz9
          go_wp2_with fail
          go_roundw
          case rel => exact ⟨i + 1, F', t', b', by omega, by go_num, rfl, HE9.out⟩
          case measure => simp only [intOf]; omega
end Go.Proofs.Ytbnlenanfhggiaa
