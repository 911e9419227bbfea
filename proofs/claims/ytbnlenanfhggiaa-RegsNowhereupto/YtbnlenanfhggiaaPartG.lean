/- Texts that the proof of the law stands on: WO. -/
import Derived.Test.YtbnlenanfhggiaaPartE
import Derived.Test.YtbnlenanfhggiaaPartF
/- RegsNowhere: the walk. -/
namespace Go.Proofs.Ytbnlenanfhggiaa
open Go.ChangeShapes Go.WideShapes Go.ChangeAt Go.RowKit Go.Maps Go.MapKept
set_option linter.unusedVariables false
set_option linter.unusedSimpArgs false
set_option maxRecDepth 100000
theorem nowhere_same (F : Rf) (r : Rv) (hd : ∀ x q, F x = some q → nmB x = true) : layE F 95 r = 0 ∧ yankF F 95 r = F ∧ cutF F 95 r = F ∧ getE F 95 = 111 ∧ getR F 95 = ⟨[], false⟩ := by
  have hk : kwB 95 = true := by simp [kwB]
  have hl : layE F 95 r = 0 := by unfold layE; rw [if_neg (by rw [hk]; simp), if_pos rfl]
  have hF : layF F 95 r = F := by unfold layF; rw [if_neg fun e => e.2.1 rfl]
  have hs : smI 95 = 95 := by simp [smI, grtB, bt]
  have hn : F 95 = none := by
    cases q : F 95 with
    | none => rfl
    | some z => have := hd 95 z q; simp [nmB, digB, smlB, bt] at this
  refine ⟨hl, ?_, ?_, ?_, ?_⟩
  · unfold yankF; rw [if_neg fun e => absurd e.2 (by omega), hF]
  · unfold cutF; rw [if_neg fun e => absurd e.2 (by omega), hF]
  · unfold getE; rw [if_pos hk, hs, hn]; rfl
  · unfold getR; rw [if_pos hk, hs, hn]; rfl
set_option maxHeartbeats 8000000 in
theorem nowhere_walk {Q : Nat → Prop} {vl : Value} {l : List Op11} {w : World} (hl : OpsL Q vl l w) (hok : ∀ o ∈ l, o.kd < 256 ∧ o.nm < 256 ∧ szL o.r.ls ≤ 1048576) (hln : l.length ≤ 1048576) {v : Value} {r : Rv} (hv : Sl Q v r.ls w) (hz : szL r.ls ≤ 1048576) :
    Calls Try.prog 8 #[vl, .agg #[v, .bool r.wh]] w fun e w' => e = .returned (.bool true) ∧ Kp w w' := by
  obtain ⟨a, c, rfl, gr1, gr2, _⟩ := hv.form
  have HL0 : Hid (OpsL Q vl l w) := hl
  obtain ⟨la, lc, rfl, l1, l2, l3⟩ := hl
  obtain ⟨N, hN⟩ : ∃ N, r.ls.length = N := ⟨_, rfl⟩
  obtain ⟨K, hK⟩ : ∃ K, l.length = K := ⟨_, rfl⟩
  rw [hN] at hv gr1 ⊢
  rw [hK] at HL0 l1 hln ⊢
  have HL : Hid (∀ i, i < K → ∃ B off nm a n c o, la = some ⟨B, off, none⟩ ∧ w.cell? ⟨B, off + i * 4 + 1, none⟩ = some (.int .u8 ((nm : Nat) : Int)) ∧ w.cell? ⟨B, off + i * 4 + 2, none⟩ = some (.slice a n c) ∧ w.cell? ⟨B, off + i * 4 + 3, none⟩ = some (.bool o.wh) ∧ nm < 256 ∧ Sl Q (.slice a n c) (o : Rv).ls w ∧ szL o.ls ≤ 1048576) := fun i hi => by
    obtain ⟨o, ho⟩ : ∃ o, l[i]? = some o := ⟨_, List.getElem?_eq_getElem (by omega)⟩
    obtain ⟨B, off, e, q1, q2, q3, q4, q5⟩ := l3 i o ho
    obtain ⟨a, c, e2, r1, r2, _⟩ := q5.form
    rw [e2] at q3 q5
    have := hok o (List.mem_of_getElem? ho)
    exact ⟨B, off, o.nm, a, _, c, o.r, e, q2, q3, q4, this.2.1, q5, this.2.2⟩
  obtain ⟨W1, hW1⟩ : ∃ W1, w.alloc (.cells #[.slice a N c, .bool r.wh] 24) = W1 := ⟨_, rfl⟩
  have k1 : Kp w W1 := by rw [← hW1]; exact kp_alloc _ _
  have b5 : Lc 24 w.heap.size [.slice a N c, .bool r.wh] W1 := by rw [← hW1]; exact Lc.new w _ _
  have hz1 : W1.heap.size = w.heap.size + 1 := by rw [← hW1, alloc_size]
  have HH0 : Hid (Calls Try.prog 9 #[.slice la K lc] W1 fun e w' => ∃ hb, e = .returned (.bool hb) ∧ w' = W1) := heavy_any (HL0.out.kp k1)
  have HH : Hid (Calls Try.prog 9 #[.slice (some ⟨w.heap.size + 1, 0, none⟩) 1 1] (W1.alloc (.cells #[.int .u8 0, .int .u8 0, .slice a N c, .bool r.wh] 27)) fun e w' => ∃ hb, e = .returned (.bool hb) ∧ w' = W1.alloc (.cells #[.int .u8 0, .int .u8 0, .slice a N c, .bool r.wh] 27)) := heavy_any (ops_one (hv.kp k1) hz1)
  have HB : Hid (Kp w W1 ∧ Lc 24 w.heap.size [.slice a N c, .bool r.wh] W1 ∧ Sl Q (.slice a N c) r.ls w ∧ r.ls.length = N ∧ szL r.ls ≤ 1048576) := ⟨k1, b5, hv, hN, hz⟩
  have u1 := b5.at (j := 0) rfl
  have u2 := b5.at (j := 1) rfl
  have HW : Hid (_ = W1) := hW1
  have HKN : Hid (∀ X, Calls Try.prog 10 #[] X fun e w' => e = .returned (.bool true) ∧ Kp X w') := rknown_any
  unfold maxLen at l2 gr2
  clear hv hz hN hK hW1 k1 b5 HL0 l3 hok
  go_enter Try.func8, Try.ntmps8
  go_upto_region 1 with fail
  rw [HW.out]
  clear HW
  go_wp2_with fail
  refine Calls.mono HH0.out ?_
  rintro e x0 ⟨hb0, rfl, e0⟩
  rw [e0]
  clear e0 HH0
  cases hb0
  rotate_left
  · clear HH
    go_wp2_with fail
    refine Calls.mono (HKN.out _) ?_
    rintro e x3 ⟨rfl, k3⟩
    have HE : Hid (Kp w x3) := kp_trans HB.out.1 k3
    clear k3 HKN
    go_wp2_with fail
    go_ret
    exact ⟨rfl, HE.out⟩
  go_wp2_with fail
  refine Calls.mono HH.out ?_
  rintro e x2 ⟨hb, rfl, e2⟩
  have k2 : Kp W1 x2 := by rw [e2]; exact kp_alloc _ _
  have HK2 : Hid (Kp w x2 ∧ Kp W1 x2) := ⟨kp_trans HB.out.1 k2, k2⟩
  clear e2 k2 HH hz1 u1 u2
  cases hb
  rotate_left
  · go_wp2_with fail
    refine Calls.mono (HKN.out _) ?_
    rintro e x3 ⟨rfl, k3⟩
    have HE : Hid (Kp w x3) := kp_trans HK2.out.1 k3
    clear HK2 k3 HKN
    go_wp2_with fail
    go_ret
    exact ⟨rfl, HE.out⟩
  go_wp2_with fail
  refine Calls.mono (HKN.out _) ?_
  rintro e x3 ⟨rfl, k3⟩
  have HK3 : Hid (Kp w x3 ∧ Kp W1 x3) := ⟨kp_trans HK2.out.1 k3, kp_trans HK2.out.2 k3⟩
  have HN : Hid (Calls Try.prog 11 #[] x3 fun e w' => ∃ t b, e = .returned (.pointer (some ⟨t, 0, none⟩)) ∧ Hid (Rs t b (fun _ => none) Anyw w' ∧ Kp x3 w' ∧ x3.heap.size ≤ b)) := by
    refine (gnew_any (P := Anyw) x3).mono ?_
    rintro e w' ⟨t, b, he, q1, q2, _, q3⟩
    exact ⟨t, b, he, q1, q2, q3⟩
  clear k3 HK2 HKN
  go_wp2_with fail
  refine Calls.mono HN.out ?_
  rintro e x4 ⟨t, b, rfl, H4⟩
  have hq := eql_ptrR t
  have HN2 : Hid (Calls Try.prog 17 #[] x4 fun e w' => ∃ t2, e = .returned (.pointer (some ⟨t2, 0, none⟩)) ∧ Hid (Rr t2 (fun _ => none) Anyw w' ∧ Kp x4 w' ∧ x4.heap.size ≤ t2)) := by
    refine (rnew_any Anyw x4).mono ?_
    rintro e w' ⟨t2, he, q1, q2, q3⟩
    exact ⟨t2, he, q1, q2, q3⟩
  clear HN
  go_wp2_with fail
  refine Calls.mono HN2.out ?_
  rintro e x5 ⟨t2, rfl, H5⟩
  have H0 : Hid (Rs t b (fun _ => none) Anyw x5 ∧ Rr t2 (fun _ => none) Anyw x5 ∧ Kp w x5 ∧ Lc 24 w.heap.size [.slice a N c, .bool r.wh] x5) := ⟨H4.out.1.kp H5.out.2.1, H5.out.1, kp_trans (kp_trans HK3.out.1 H4.out.2.1) H5.out.2.1, HB.out.2.1.kp (kp_trans (kp_trans HK3.out.2 H4.out.2.1) H5.out.2.1)⟩
  have HTB : Hid (w.heap.size ≤ b ∧ w.heap.size ≤ t2) := ⟨Nat.le_trans HK3.out.1.size H4.out.2.2, Nat.le_trans (kp_trans HK3.out.1 H4.out.2.1).size H5.out.2.2⟩
  have HSV : Hid (Sl Q (.slice a N c) r.ls w ∧ szL r.ls ≤ 1048576) := ⟨HB.out.2.2.1, HB.out.2.2.2.2⟩
  clear HN2 HK3 H4 H5 HB
  go_wp2_with fail
  go_loopw [7] (fun v7 wr => ∃ (i : Nat) (F : Rf), i ≤ K ∧ v7 = .int .i64 i ∧ Hid (Rs t b F Anyw wr ∧ Rr t2 F Anyw wr ∧ Kp w wr ∧ Lc 24 w.heap.size [.slice a N c, .bool r.wh] wr)) (fun v7 _ => K - (intOf v7).toNat)
  case atStart => exact ⟨0, _, Nat.zero_le _, rfl, H0.out⟩
  case round =>
    obtain ⟨i, F, hi, rfl, HI⟩ := hrel
    clear H0
    by_cases hlt : i < K
    · have g1 : decide ((i : Int) < (K : Int)) = true := decide_eq_true (by omega)
      have g2 : decide (i < K) = true := decide_eq_true (by omega)
      obtain ⟨B, off, nm, oa, on, oc, o, rfl, e1, e2, e3, hnm, hsl, hoz⟩ := HL.out i hlt
      have kd := kp_trans HI.out.2.2.1 (kp_drew wr)
      have y1 := kp_cell kd e1
      have y2 := kp_cell kd e2
      have y3 := kp_cell kd e3
      have HS : Hid (Calls Try.prog 12 #[.pointer (some ⟨t, 0, none⟩), .int .u8 (nm : Int), .agg #[.slice oa on oc, .bool o.wh]] wr.drew fun e w' => ∃ E, e = .returned (.int .u16 E) ∧ Hid (Rs t b (yankF F (nm : Int) o) Anyw w' ∧ Rr t2 F Anyw w' ∧ Kp w w' ∧ Lc 24 w.heap.size [.slice a N c, .bool r.wh] w')) := by
        have hR := HI.out.1.kp (kp_drew wr)
        refine (yank_any hR (anyw _) (by omega) (by omega) (hsl.kp kd) (fit_sz hoz)).mono ?_
        rintro e w' ⟨he, q1, q2⟩
        exact ⟨_, he, q1, hR.rr (HI.out.2.1.kp (kp_drew wr)) q2, kp_fr kd q2 HTB.out.1, hR.box_off (HI.out.2.2.2.kp (kp_drew wr)) q2⟩
      have HE : Hid (w.cell? ⟨B, off + i * 4 + 1, none⟩ = some (.int .u8 ((nm : Nat) : Int)) ∧ w.cell? ⟨B, off + i * 4 + 2, none⟩ = some (.slice oa on oc) ∧ w.cell? ⟨B, off + i * 4 + 3, none⟩ = some (.bool o.wh) ∧ Sl Q (.slice oa on oc) o.ls w ∧ szL o.ls ≤ 1048576) := ⟨e1, e2, e3, hsl, hoz⟩
      clear HI e1 e2 e3 hsl hoz kd
      go_upto_region 10 with fail
      have HEX : Hid _ := And.intro HE.out.1 (And.intro HE.out.2.1 HE.out.2.2.1)
      refine wp_region_noPanic ?_
      refine wp_region_held_drew (S := fun z => z.cell? ⟨B, off + i * 4 + 1, none⟩ = some (.int .u8 ((nm : Nat) : Int)) ∧ z.cell? ⟨B, off + i * 4 + 2, none⟩ = some (.slice oa on oc) ∧ z.cell? ⟨B, off + i * 4 + 3, none⟩ = some (.bool o.wh)) (by kernel_rfl) (⟨y1, y2, y3⟩) (fun hHeld => ?_)
      refine takeAt 0 (some 35) ?_ rfl rfl (by kernel_rfl) (by kernel_rfl) (by kernel_rfl) (fun _ _ _ h => h) (Or.inl ⟨by rfl, ?_⟩) hHeld ?_
      rotate_left
      · intro w hSw
        go_simp <;> with_reducible rfl
      try simp only [Act.put, List.setIfInBounds_toArray, List.set_cons_zero, List.set_cons_succ]
      refine takeAt 1 (some 36) ?_ rfl rfl (by kernel_rfl) (by kernel_rfl) (by kernel_rfl) (fun _ _ _ h => h) (Or.inl ⟨by rfl, ?_⟩) hHeld ?_
      rotate_left
      · intro w hSw
        go_simp <;> with_reducible rfl
      try simp only [Act.put, List.setIfInBounds_toArray, List.set_cons_zero, List.set_cons_succ]
      refine takeAt 2 (some 37) ?_ rfl rfl (by kernel_rfl) (by kernel_rfl) (by kernel_rfl) (fun _ _ _ h => h) (Or.inl ⟨by rfl, ?_⟩) hHeld ?_
      rotate_left
      · intro w hSw
        go_simp <;> with_reducible rfl
      try simp only [Act.put, List.setIfInBounds_toArray, List.set_cons_zero, List.set_cons_succ]
      refine takeAt 3 (some 38) ?_ rfl rfl (by kernel_rfl) (by kernel_rfl) (by kernel_rfl) (fun _ _ _ h => h) (Or.inl ⟨by rfl, ?_⟩) hHeld ?_
      rotate_left
      · intro w hSw
        go_simp <;> with_reducible rfl
      try simp only [Act.put, List.setIfInBounds_toArray, List.set_cons_zero, List.set_cons_succ]
      refine takeAt 4 (some 39) ?_ rfl rfl (by kernel_rfl) (by kernel_rfl) (by kernel_rfl) (fun _ _ _ h => h) (Or.inl ⟨by rfl, ?_⟩) hHeld ?_
      rotate_left
      · intro w hSw
        go_simp <;> with_reducible rfl
      try simp only [Act.put, List.setIfInBounds_toArray, List.set_cons_zero, List.set_cons_succ]
      refine takeAt 5 (some 40) ?_ rfl rfl (by kernel_rfl) (by kernel_rfl) (by kernel_rfl) (fun _ _ _ h => h) (Or.inl ⟨by rfl, ?_⟩) hHeld ?_
      rotate_left
      · intro w hSw
        go_simp <;> with_reducible rfl
      try simp only [Act.put, List.setIfInBounds_toArray, List.set_cons_zero, List.set_cons_succ]
      refine takeAt 6 (some 41) ?_ rfl rfl (by kernel_rfl) (by kernel_rfl) (by kernel_rfl) (fun _ _ _ h => h) (Or.inl ⟨by rfl, ?_⟩) hHeld ?_
      rotate_left
      · intro w hSw
        go_simp <;> with_reducible rfl
      try simp only [Act.put, List.setIfInBounds_toArray, List.set_cons_zero, List.set_cons_succ]
      refine takeAt 7 (some 42) ?_ rfl rfl (by kernel_rfl) (by kernel_rfl) (by kernel_rfl) (fun _ _ _ h => h) (Or.inl ⟨by rfl, ?_⟩) hHeld ?_
      rotate_left
      · intro w hSw
        go_simp <;> with_reducible rfl
      try simp only [Act.put, List.setIfInBounds_toArray, List.set_cons_zero, List.set_cons_succ]
      refine takeAt 8 (some 43) ?_ rfl rfl (by kernel_rfl) (by kernel_rfl) (by kernel_rfl) (fun _ _ _ h => h) (Or.inl ⟨by rfl, ?_⟩) hHeld ?_
      rotate_left
      · intro w hSw
        go_simp <;> with_reducible rfl
      try simp only [Act.put, List.setIfInBounds_toArray, List.set_cons_zero, List.set_cons_succ]
      refine takeAt 9 (some 44) ?_ rfl rfl (by kernel_rfl) (by kernel_rfl) (by kernel_rfl) (fun _ _ _ h => h) (Or.inl ⟨by rfl, ?_⟩) hHeld ?_
      rotate_left
      · intro w hSw
        go_simp <;> with_reducible rfl
      try simp only [Act.put, List.setIfInBounds_toArray, List.set_cons_zero, List.set_cons_succ]
      refine takeAt 10 (some 45) ?_ rfl rfl (by kernel_rfl) (by kernel_rfl) (by kernel_rfl) (fun _ _ _ h => h) (Or.inl ⟨by rfl, ?_⟩) hHeld ?_
      rotate_left
      · intro w hSw
        go_simp <;> with_reducible rfl
      try simp only [Act.put, List.setIfInBounds_toArray, List.set_cons_zero, List.set_cons_succ]
      refine callAt 11 46 12 (vals := #[.pointer (some ⟨t, 0, none⟩), .int .u8 (nm : Int), .agg #[.slice oa on oc, .bool o.wh]]) (by kernel_rfl) rfl rfl rfl rfl (by simp [Act.eval]) Try.func12 (by kernel_rfl) (by kernel_rfl) ?_
      refine Calls.mono (HS.out) ?_
      rintro e x6 ⟨E6, rfl, H6⟩
      have hSS := And.intro (kp_cell H6.out.2.2.1 HEX.out.1) (And.intro (kp_cell H6.out.2.2.1 HEX.out.2.1) (kp_cell H6.out.2.2.1 HEX.out.2.2))
      clear HS
      refine ⟨_, rfl, hSS, fun hHeld => ?_⟩
      try simp only [Act.put, List.setIfInBounds_toArray, List.set_cons_zero, List.set_cons_succ]
      refine wpAnyH_done (by kernel_rfl) ?_ _
      refine NoPanic.normal ?_
      clear y1 y2 y3
      have kd := kp_trans H6.out.2.2.1 (kp_drew x6)
      have z1 := kp_cell kd HE.out.1
      have z2 := kp_cell kd HE.out.2.1
      have z3 := kp_cell kd HE.out.2.2.1
      have HS2 : Hid (Calls Try.prog 24 #[.pointer (some ⟨t2, 0, none⟩), .int .u8 (nm : Int), .agg #[.slice oa on oc, .bool o.wh]] x6.drew fun e w' => ∃ E, e = .returned (.int .i64 E) ∧ Hid (Rs t b (yankF F (nm : Int) o) Anyw w' ∧ Rr t2 (yankF F (nm : Int) o) Anyw w' ∧ Kp w w' ∧ Lc 24 w.heap.size [.slice a N c, .bool r.wh] w')) := by
        have hR := H6.out.2.1.kp (kp_drew x6)
        refine (ryank_any hR (anyw _) hnm (HE.out.2.2.2.1.kp kd) HE.out.2.2.2.2).mono ?_
        rintro e w' ⟨he, q1, q2⟩
        exact ⟨_, he, hR.rs (H6.out.1.kp (kp_drew x6)) q2, q1, kp_fr kd q2 HTB.out.2, hR.box_off (H6.out.2.2.2.kp (kp_drew x6)) (by decide) q2⟩
      clear H6 HE kd
      go_upto_region 11 with fail
      refine wp_region_noPanic ?_
      refine wp_region_held_drew (S := fun z => z.cell? ⟨B, off + i * 4 + 1, none⟩ = some (.int .u8 ((nm : Nat) : Int)) ∧ z.cell? ⟨B, off + i * 4 + 2, none⟩ = some (.slice oa on oc) ∧ z.cell? ⟨B, off + i * 4 + 3, none⟩ = some (.bool o.wh)) (by kernel_rfl) (⟨z1, z2, z3⟩) (fun hHeld => ?_)
      refine takeAt 0 (some 47) ?_ rfl rfl (by kernel_rfl) (by kernel_rfl) (by kernel_rfl) (fun _ _ _ h => h) (Or.inl ⟨by rfl, ?_⟩) hHeld ?_
      rotate_left
      · intro w hSw
        go_simp <;> with_reducible rfl
      try simp only [Act.put, List.setIfInBounds_toArray, List.set_cons_zero, List.set_cons_succ]
      refine takeAt 1 (some 48) ?_ rfl rfl (by kernel_rfl) (by kernel_rfl) (by kernel_rfl) (fun _ _ _ h => h) (Or.inl ⟨by rfl, ?_⟩) hHeld ?_
      rotate_left
      · intro w hSw
        go_simp <;> with_reducible rfl
      try simp only [Act.put, List.setIfInBounds_toArray, List.set_cons_zero, List.set_cons_succ]
      refine takeAt 2 (some 49) ?_ rfl rfl (by kernel_rfl) (by kernel_rfl) (by kernel_rfl) (fun _ _ _ h => h) (Or.inl ⟨by rfl, ?_⟩) hHeld ?_
      rotate_left
      · intro w hSw
        go_simp <;> with_reducible rfl
      try simp only [Act.put, List.setIfInBounds_toArray, List.set_cons_zero, List.set_cons_succ]
      refine takeAt 3 (some 50) ?_ rfl rfl (by kernel_rfl) (by kernel_rfl) (by kernel_rfl) (fun _ _ _ h => h) (Or.inl ⟨by rfl, ?_⟩) hHeld ?_
      rotate_left
      · intro w hSw
        go_simp <;> with_reducible rfl
      try simp only [Act.put, List.setIfInBounds_toArray, List.set_cons_zero, List.set_cons_succ]
      refine takeAt 4 (some 51) ?_ rfl rfl (by kernel_rfl) (by kernel_rfl) (by kernel_rfl) (fun _ _ _ h => h) (Or.inl ⟨by rfl, ?_⟩) hHeld ?_
      rotate_left
      · intro w hSw
        go_simp <;> with_reducible rfl
      try simp only [Act.put, List.setIfInBounds_toArray, List.set_cons_zero, List.set_cons_succ]
      refine takeAt 5 (some 52) ?_ rfl rfl (by kernel_rfl) (by kernel_rfl) (by kernel_rfl) (fun _ _ _ h => h) (Or.inl ⟨by rfl, ?_⟩) hHeld ?_
      rotate_left
      · intro w hSw
        go_simp <;> with_reducible rfl
      try simp only [Act.put, List.setIfInBounds_toArray, List.set_cons_zero, List.set_cons_succ]
      refine takeAt 6 (some 53) ?_ rfl rfl (by kernel_rfl) (by kernel_rfl) (by kernel_rfl) (fun _ _ _ h => h) (Or.inl ⟨by rfl, ?_⟩) hHeld ?_
      rotate_left
      · intro w hSw
        go_simp <;> with_reducible rfl
      try simp only [Act.put, List.setIfInBounds_toArray, List.set_cons_zero, List.set_cons_succ]
      refine takeAt 7 (some 54) ?_ rfl rfl (by kernel_rfl) (by kernel_rfl) (by kernel_rfl) (fun _ _ _ h => h) (Or.inl ⟨by rfl, ?_⟩) hHeld ?_
      rotate_left
      · intro w hSw
        go_simp <;> with_reducible rfl
      try simp only [Act.put, List.setIfInBounds_toArray, List.set_cons_zero, List.set_cons_succ]
      refine takeAt 8 (some 55) ?_ rfl rfl (by kernel_rfl) (by kernel_rfl) (by kernel_rfl) (fun _ _ _ h => h) (Or.inl ⟨by rfl, ?_⟩) hHeld ?_
      rotate_left
      · intro w hSw
        go_simp <;> with_reducible rfl
      try simp only [Act.put, List.setIfInBounds_toArray, List.set_cons_zero, List.set_cons_succ]
      refine takeAt 9 (some 56) ?_ rfl rfl (by kernel_rfl) (by kernel_rfl) (by kernel_rfl) (fun _ _ _ h => h) (Or.inl ⟨by rfl, ?_⟩) hHeld ?_
      rotate_left
      · intro w hSw
        go_simp <;> with_reducible rfl
      try simp only [Act.put, List.setIfInBounds_toArray, List.set_cons_zero, List.set_cons_succ]
      refine takeAt 10 (some 57) ?_ rfl rfl (by kernel_rfl) (by kernel_rfl) (by kernel_rfl) (fun _ _ _ h => h) (Or.inl ⟨by rfl, ?_⟩) hHeld ?_
      rotate_left
      · intro w hSw
        go_simp <;> with_reducible rfl
      try simp only [Act.put, List.setIfInBounds_toArray, List.set_cons_zero, List.set_cons_succ]
      refine callAt 11 58 24 (vals := #[.pointer (some ⟨t2, 0, none⟩), .int .u8 (nm : Int), .agg #[.slice oa on oc, .bool o.wh]]) (by kernel_rfl) rfl rfl rfl rfl (by simp [Act.eval]) Try.func24 (by kernel_rfl) (by kernel_rfl) ?_
      refine Calls.mono (HS2.out) ?_
      rintro e x7 ⟨E7, rfl, H7⟩
      have hSS := And.intro (kp_cell H7.out.2.2.1 HEX.out.1) (And.intro (kp_cell H7.out.2.2.1 HEX.out.2.1) (kp_cell H7.out.2.2.1 HEX.out.2.2))
      clear HS2
      refine ⟨_, rfl, hSS, fun hHeld => ?_⟩
      try simp only [Act.put, List.setIfInBounds_toArray, List.set_cons_zero, List.set_cons_succ]
      refine wpAnyH_done (by kernel_rfl) ?_ _
      refine NoPanic.normal ?_
      clear z1 z2 z3
      go_wp2_with fail
      go_roundw
      case rel => exact ⟨i + 1, _, by omega, by go_num, H7.out⟩
      case measure => simp only [intOf]; omega
    · obtain rfl : i = K := by omega
      have g1 : decide ((i : Int) < (i : Int)) = false := by simp
      obtain ⟨p1, p2, p3, p4, p5⟩ := nowhere_same F r HI.out.1.dom
      have HY : Hid (Calls Try.prog 12 #[.pointer (some ⟨t, 0, none⟩), .int .u8 95, .agg #[.slice a N c, .bool r.wh]] wr fun e w' => e = .returned (.int .u16 0) ∧ Hid (Rs t b F Anyw w' ∧ Rr t2 F Anyw w' ∧ Kp w w' ∧ Lc 24 w.heap.size [.slice a N c, .bool r.wh] w')) := by
        refine (yank_any HI.out.1 (anyw _) (by omega) (by omega) (HSV.out.1.kp HI.out.2.2.1) (fit_sz HSV.out.2)).mono ?_
        rintro e w' ⟨he, q1, q2⟩
        rw [p1] at he; rw [p2] at q1
        exact ⟨he, q1, HI.out.1.rr HI.out.2.1 q2, kp_fr HI.out.2.2.1 q2 HTB.out.1, HI.out.1.box_off HI.out.2.2.2 q2⟩
      have HCu : Hid (∀ X, Rs t b F Anyw X ∧ Rr t2 F Anyw X ∧ Kp w X ∧ Lc 24 w.heap.size [.slice a N c, .bool r.wh] X → Calls Try.prog 14 #[.pointer (some ⟨t, 0, none⟩), .int .u8 95, .agg #[.slice a N c, .bool r.wh]] X fun e w' => e = .returned (.int .u16 0) ∧ Hid (Rs t b F Anyw w' ∧ Rr t2 F Anyw w' ∧ Kp w w')) := fun X hX => by
        refine (cut_any hX.1 (anyw _) (by omega) (by omega) (HSV.out.1.kp hX.2.2.1) (fit_sz HSV.out.2)).mono ?_
        rintro e w' ⟨he, q1, q2⟩
        rw [p1] at he; rw [p3] at q1
        exact ⟨he, q1, hX.1.rr hX.2.1 q2, kp_fr hX.2.2.1 q2 HTB.out.1⟩
      have HGP : Hid (getR F 95 = ⟨[], false⟩ ∧ getE F 95 = 111) := ⟨p5, p4⟩
      have u1 := HI.out.2.2.2.at (j := 0) rfl
      have u2 := HI.out.2.2.2.at (j := 1) rfl
      clear p1 p2 p3 p4 p5 HI HL hlt hi
      go_wp2_with fail
      refine Calls.mono HY.out ?_
      rintro e y1 ⟨rfl, H1⟩
      have v1 := H1.out.2.2.2.at (j := 0) rfl
      have v2 := H1.out.2.2.2.at (j := 1) rfl
      have HC2 : Hid _ := HCu.out y1 H1.out
      clear HY HCu u1 u2 H1
      go_wp2_with fail
      refine Calls.mono HC2.out ?_
      rintro e y2 ⟨rfl, H2⟩
      have HG : Hid _ := get_some H2.out.1 (x := 95) (by omega) (by omega) HGP.out.1 HGP.out.2
      clear HC2 v1 v2
      go_wp2_with fail
      refine Calls.mono HG.out ?_
      rintro e y3 ⟨a3, n3, c3, rfl, qn, hn3, hn3', H3⟩
      have HA : Hid (∀ o, Calls Try.prog 25 #[.pointer (some ⟨t, 0, none⟩), .pointer (some ⟨t2, 0, none⟩)] (y3.alloc o) fun e w' => e = .returned (.bool true) ∧ Kp w w') := fun o => by
        have k := kp_trans H3.out.2 (kp_alloc y3 o)
        refine (alike_any (H2.out.1.kp k) (H2.out.2.1.kp k)).mono ?_
        rintro e w' ⟨he, q⟩
        exact ⟨he, kp_trans (kp_trans H2.out.2.2 k) q⟩
      clear HG qn H2 H3 HGP
      go_wp2_with fail
      refine Calls.mono (HA.out _) ?_
      rintro e y4 ⟨rfl, k4⟩
      clear HA
      go_wp2_with fail
      go_ret
      exact ⟨rfl, k4⟩
end Go.Proofs.Ytbnlenanfhggiaa
