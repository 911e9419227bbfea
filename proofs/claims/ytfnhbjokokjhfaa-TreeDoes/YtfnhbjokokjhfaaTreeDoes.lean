/- For every list of lines and every list of calls the statement TreeDoes returns true; no condition. -/
import Derived.Test.YtfnhbjokokjhfaaHeavy
import Derived.ShutString
import Derived.ChangeOld
namespace Go.Proofs.Ytfnhbjokokjhfaa.treeDoes
open Go.ChangeShapes Go.WideShapes Go.ChangeAt Go.RowKit
open Go.ChangeMaps (open_string shut_string)
set_option linter.unusedVariables false

theorem own : ownKnob Try.prog.godebug = none := by kernel_rfl
theorem laidOut : laidOutB Try.prog = true := by kernel_rfl

theorem walk_out (W : World) (a a' : Option Addr) (L cap P cap' : Nat) (hh : Calls Try.prog 22 #[.slice a L cap, .slice a' P cap'] W fun e w' => e = .returned (.bool true) ∧ ∃ q, w' = W.drewN q) :
    Calls Try.prog 6 #[.slice a L cap, .slice a' P cap'] W fun e w' => e = .returned (.bool true) ∧ Below W.heap.size W w' := by
  have HH : Hid (Calls Try.prog 22 #[.slice a L cap, .slice a' P cap'] W fun e w' => e = .returned (.bool true) ∧ ∃ q, w' = W.drewN q) := hh
  clear hh
  go_enter Try.func6, Try.ntmps6
  go_wp2_with fail
  refine HH.out.mono ?_
  rintro e x0 ⟨rfl, q, rfl⟩
  go_wp2_with fail
  refine (known_any _).mono ?_
  rintro e x1 ⟨rfl, hb1⟩
  have HB1 : Hid (Below W.heap.size W x1) := (below_drewN W q).trans hb1
  clear hb1
  go_wp2_with fail
  go_ret
  exact ⟨rfl, HB1.out⟩
set_option maxHeartbeats 8000000 in
set_option maxRecDepth 100000 in
theorem walk_in (W : World) (ms : List ByteArray) (ps : List OpD) (v v' : Value) (hv : Lies nobody W v ms) (hn : ∀ n c, v = .slice none n c → n = 0 ∧ c = 0) (hv' : OpsAt W v' ps) (h : ms.length ≤ 300) (h' : ps.length ≤ 200) (hp : ∀ p ∈ ps, p.l.length ≤ 50) (hz : ∀ p ∈ ps, OpSz p) (hy : ∀ y ∈ ms, y.size ≤ reachBytes) :
    Calls Try.prog 6 #[v, v'] W fun e w' => e = .returned (.bool true) ∧ Below W.heap.size W w' := by
  have hr := reachBytes_lt
  have hsm : sizes ms < 2 ^ 60 := by
    have := sizes_le hy
    have : ms.length * reachBytes ≤ 300 * reachBytes := Nat.mul_le_mul_right _ h
    omega
  obtain ⟨a, cap, rfl, c1, c2⟩ := hv.form
  have HM : Hid (sizes ms < 2 ^ 60 ∧ (∀ y ∈ ms, y.size ≤ reachBytes) ∧ (∀ p ∈ ps, p.l.length ≤ 50) ∧ ∀ p ∈ ps, OpSz p) := ⟨hsm, hy, hp, hz⟩
  have HV : Hid (Lies nobody W (.slice a ms.length cap) ms ∧ ∀ n c, (Value.slice a ms.length cap) = .slice none n c → n = 0 ∧ c = 0) := ⟨hv, hn⟩
  have HP : Hid (OpsAt W v' ps) := hv'
  obtain ⟨a', cap', rfl, p1, p2, _⟩ := hv'
  obtain ⟨L, hL⟩ : ∃ L, ms.length = L := ⟨_, rfl⟩
  obtain ⟨P, hP⟩ : ∃ P, ps.length = P := ⟨_, rfl⟩
  have HL : Hid (ms.length = L ∧ ps.length = P) := ⟨hL, hP⟩
  rw [hL] at c1 h HV ⊢
  rw [hP] at p1 h' HP ⊢
  have HH : Hid (Calls Try.prog 22 #[.slice a L cap, .slice a' P cap'] W fun e w' => e = .returned (.bool false) ∧ ∃ q, w' = W.drewN q) := by
    have := heavy_any W a a' L cap P cap' ps hP HP.out h h'
    rw [show (ps.any fun p => decide (50 < p.l.length)) = false by
      rw [List.any_eq_false]; intro p hq; have := hp p hq; simp; omega] at this
    exact this
  unfold maxLen at c2 p2
  clear hv hn hp hz hy hL hP hsm
  go_enter Try.func6, Try.ntmps6
  go_wp2_with fail
  refine HH.out.mono ?_
  rintro e x0 ⟨rfl, q, rfl⟩
  clear HH
  go_wp2_with fail
  refine (known_any _).mono ?_
  rintro e x1 ⟨rfl, hb1⟩
  have HB1 : Hid (Below W.heap.size W x1) := (below_drewN W q).trans hb1
  clear hb1
  go_wp2_with fail
  refine (new_any (HV.out.1.below HB1.out (Nat.le_refl _)) (by rw [HL.out.1]; omega) (by have := HM.out.1; omega)).mono ?_
  rintro e x2 ⟨rfl, ha⟩
  obtain ⟨t, ht⟩ : ∃ t, x1.heap.size = t := ⟨_, rfl⟩
  rw [ht] at ha ⊢
  have HA : Hid (After nobody x1 t ms (1 + 22 * ms.length) x2 ∧ Below W.heap.size W x2) := ⟨ha, by
    obtain ⟨oa, a1, a2⟩ := ha
    exact HB1.out.trans ((old_nobody (B := W.heap.size)).keeps a2 HB1.out.size).2⟩
  clear ha ht
  go_wp2_with fail
  refine (rnew_any (HV.out.1.below HA.out.2 (Nat.le_refl _)) HV.out.2 (by rw [HL.out.1]; omega)).mono ?_
  rintro e x3 ⟨rfl, hb3, hrf⟩
  have H0 : Hid (Two W.heap.size W x3 t x2.heap.size ms ms 10000 []) := (two_new HB1.out (Nat.le_refl _) HA.out.1 rfl hb3 hrf).mono (by rw [HL.out.1]; omega)
  clear hb3 hrf HA HB1 HV
  generalize x2.heap.size = r at *
  go_wp2_with fail
  go_loopw [7] (fun vi wr => ∃ (i : Nat) (ls : List ByteArray), i ≤ P ∧ vi = .int .i64 i ∧ ls.length ≤ 300 + 50 * i ∧ (∀ y ∈ ls, y.size ≤ reachBytes) ∧ Two W.heap.size W wr t r ls ls (10000 + 227920 * i) []) (fun vi _ => P - (intOf vi).toNat)
  case atStart => exact ⟨0, ms, Nat.zero_le _, rfl, by rw [HL.out.1]; omega, HM.out.2.1, H0.out⟩
  case round =>
    obtain ⟨i, ls, hi, rfl, hll, hys, hO⟩ := hrel
    by_cases hlt : i < P
    · have hd3 : decide ((i : Int) < (P : Int)) = true := by simp; omega
      have hx : ps[i]? = some (ps[i]'(by rw [HL.out.2]; exact hlt)) := List.getElem?_eq_getElem _
      generalize ps[i]'(by rw [HL.out.2]; exact hlt) = p at hx
      obtain ⟨b, off, rfl, hok, hc⟩ := HP.out.cell hx
      have hmem := List.mem_of_getElem? hx
      have HD : Hid (Calls Try.prog 24 #[.pointer (some ⟨t, 0, none⟩), .pointer (some ⟨r, 0, none⟩), .agg #[.int .u8 p.kind, .int .i64 p.i, .int .i64 p.n, .string p.s, p.lv]] wr fun e w' => e = .returned (.bool true) ∧ Done W.heap.size W t r ls (10000 + 227920 * i + 22 * (ls.length + 60)) [] w') :=
        does_any hO rfl p hok (HM.out.2.2.2 p hmem) (HM.out.2.2.1 p hmem) (by omega) (by omega) hys
      have HC : Hid (∀ W', Below W.heap.size W W' → OpAt W' b (off + i * 5) p) := hc
      obtain ⟨k0, k1, k2, k3, k4⟩ := hc wr hO.below
      have HLL : Hid (ls.length ≤ 300 + 50 * i) := hll
      clear hx hc hok hmem hO hys hll
      go_wp2_with fail
      refine HD.out.mono ?_
      rintro e w2 ⟨rfl, ls', q1, q2, q3⟩
      have HT : Hid (Two W.heap.size W w2 t r ls' ls' (10000 + 227920 * (i + 1)) [] ∧ ls'.length ≤ 300 + 50 * (i + 1) ∧ ∀ y ∈ ls', y.size ≤ reachBytes) := ⟨q1.mono (by have := HLL.out; omega), by have := HLL.out; omega, q3⟩
      have hls : ls'.length ≤ 20000 := by have := HT.out.2.1; omega
      have hsz : sizes ls' < 3000000000000000000 := by
        have := sizes_le q3
        have : ls'.length * reachBytes ≤ 20000 * reachBytes := Nat.mul_le_mul_right _ hls
        omega
      obtain ⟨ra, rc, hTL⟩ := HT.out.1.withL
      obtain ⟨R, hR⟩ : ∃ R, ls'.length = R := ⟨_, rfl⟩
      obtain ⟨Z, hZ⟩ : ∃ Z, sizes ls' = Z := ⟨_, rfl⟩
      have HR : Hid (ls'.length = R ∧ R ≤ 20000) := ⟨hR, by omega⟩
      have F : Hid ((TwoL W.heap.size W t r ls' (10000 + 227920 * (i + 1)) (.slice ra R rc) w2.drew → Hid (Calls Try.prog 18 #[.pointer (some ⟨t, 0, none⟩)] w2.drew fun e w' => e = .returned (.int .i64 R) ∧ TwoL W.heap.size W t r ls' (10000 + 227920 * (i + 1)) (.slice ra R rc) w')) ∧
        (∀ x, TwoL W.heap.size W t r ls' (10000 + 227920 * (i + 1)) (.slice ra R rc) x → Hid (Calls Try.prog 25 #[.pointer (some ⟨r, 0, none⟩)] x fun e w' => e = .returned (.int .i64 R) ∧ TwoL W.heap.size W t r ls' (10000 + 227920 * (i + 1)) (.slice ra R rc) w')) ∧
        (∀ x, TwoL W.heap.size W t r ls' (10000 + 227920 * (i + 1)) (.slice ra R rc) x → Hid (Calls Try.prog 14 #[.pointer (some ⟨t, 0, none⟩)] x fun e w' => e = .returned (.int .i64 Z) ∧ TwoL W.heap.size W t r ls' (10000 + 227920 * (i + 1)) (.slice ra R rc) w')) ∧
        (∀ x, TwoL W.heap.size W t r ls' (10000 + 227920 * (i + 1)) (.slice ra R rc) x → Hid (Calls Try.prog 26 #[.pointer (some ⟨r, 0, none⟩)] x fun e w' => e = .returned (.int .i64 Z) ∧ TwoL W.heap.size W t r ls' (10000 + 227920 * (i + 1)) (.slice ra R rc) w')) ∧
        (∀ x, TwoL W.heap.size W t r ls' (10000 + 227920 * (i + 1)) (.slice ra R rc) x → Hid (Calls Try.prog 13 #[.pointer (some ⟨t, 0, none⟩)] x fun e w' => ∃ gb, e = .returned (.slice (some ⟨gb, 0, none⟩) R R) ∧ Lies nobody w' (.slice (some ⟨gb, 0, none⟩) R R) ls' ∧ TwoL W.heap.size W t r ls' (10000 + 227920 * (i + 1)) (.slice ra R rc) w'))) := by
        rw [← hR, ← hZ]
        exact ⟨fun h => h.len, fun x h => h.rlen, fun x h => h.bytes, fun x h => h.rbytes (by omega) (by omega), fun x h => h.lines (by omega)⟩
      rw [hR] at hTL
      have HTL : Hid (TwoL W.heap.size W t r ls' (10000 + 227920 * (i + 1)) (.slice ra R rc) w2 ∧ TwoL W.heap.size W t r ls' (10000 + 227920 * (i + 1)) (.slice ra R rc) w2.drew) := ⟨hTL, hTL.under (below_drewN w2 1)⟩
      have hTc : Tc ⟨r, 0, none⟩ (.slice ra R rc) w2.drew := HTL.out.2.cell
      have rule : ∀ w', Tc ⟨r, 0, none⟩ (.slice ra R rc) w' → w'.cell? ⟨r, 0, none⟩ = some (.slice ra R rc) := fun _ h => h
      clear q1 q2 q3 hR hZ hTL hsz hls HD k0 k1 k2 k3 k4
      go_wp2_with fail
      have F1 := F.out.1 HTL.out.2
      refine wp_region_noPanic ?_
      refine wp_region_held_drew (S := Tc ⟨r, 0, none⟩ (.slice ra R rc)) (by kernel_rfl) (hTc) (fun hHeld => ?_)
      refine takeAt 0 (some 36) ?_ rfl rfl (by kernel_rfl) (by kernel_rfl) (by kernel_rfl) (fun _ _ _ h => h) (Or.inl ⟨by rfl, ?_⟩) hHeld ?_
      rotate_left
      · intro w hSw
        go_simp <;> with_reducible rfl
      try simp only [Act.put, List.setIfInBounds_toArray, List.set_cons_zero, List.set_cons_succ]
      refine takeAt 1 (some 37) ?_ rfl rfl (by kernel_rfl) (by kernel_rfl) (by kernel_rfl) (fun _ _ _ h => h) (Or.inl ⟨by rfl, ?_⟩) hHeld ?_
      rotate_left
      · intro w hSw
        go_simp <;> with_reducible rfl
      try simp only [Act.put, List.setIfInBounds_toArray, List.set_cons_zero, List.set_cons_succ]
      refine takeAt 2 (some 38) ?_ rfl rfl (by kernel_rfl) (by kernel_rfl) (by kernel_rfl) (fun _ _ _ h => h) (Or.inl ⟨by rfl, ?_⟩) hHeld ?_
      rotate_left
      · intro w hSw
        go_simp <;> with_reducible rfl
      try simp only [Act.put, List.setIfInBounds_toArray, List.set_cons_zero, List.set_cons_succ]
      refine takeAt 3 (some 39) ?_ rfl rfl (by kernel_rfl) (by kernel_rfl) (by kernel_rfl) (fun _ _ _ h => h) (Or.inl ⟨by rfl, ?_⟩) hHeld ?_
      rotate_left
      · intro w hSw
        go_simp <;> with_reducible rfl
      try simp only [Act.put, List.setIfInBounds_toArray, List.set_cons_zero, List.set_cons_succ]
      refine takeAt 5 (some 41) ?_ rfl rfl (by kernel_rfl) (by kernel_rfl) (by kernel_rfl) (fun _ _ _ h => h) (Or.inl ⟨by rfl, ?_⟩) hHeld ?_
      rotate_left
      · intro w hSw
        go_simp <;> with_reducible rfl
      try simp only [Act.put, List.setIfInBounds_toArray, List.set_cons_zero, List.set_cons_succ]
      refine callAtG 4 40 18 (vals := #[.pointer (some ⟨t, 0, none⟩)]) (by kernel_rfl) rfl rfl rfl (by rfl) (by simp [Act.eval]) Try.func18 (by kernel_rfl) (by kernel_rfl) ?_
      refine Calls.mono (F1.out) ?_
      rintro e w3 ⟨rfl, q⟩
      have G1 : Hid _ := q
      clear q
      refine ⟨_, rfl, show Tc _ _ _ from G1.out.cell, fun hHeld => ?_⟩
      try simp only [Act.put, List.setIfInBounds_toArray, List.set_cons_zero, List.set_cons_succ]
      have F2 := F.out.2.1 _ G1.out
      refine callAtG 6 42 25 (vals := #[.pointer (some ⟨r, 0, none⟩)]) (by kernel_rfl) rfl rfl rfl (by rfl) (by simp [Act.eval]) Try.func25 (by kernel_rfl) (by kernel_rfl) ?_
      refine Calls.mono (F2.out) ?_
      rintro e w4 ⟨rfl, q⟩
      have G2 : Hid _ := q
      clear q
      refine ⟨_, rfl, show Tc _ _ _ from G2.out.cell, fun hHeld => ?_⟩
      try simp only [Act.put, List.setIfInBounds_toArray, List.set_cons_zero, List.set_cons_succ]
      have F3 := F.out.2.2.1 _ G2.out
      refine takeAt 7 (some 43) ?_ rfl rfl (by kernel_rfl) (by kernel_rfl) (by kernel_rfl) (fun _ _ _ h => h) (Or.inl ⟨by rfl, ?_⟩) hHeld ?_
      rotate_left
      · intro w hSw
        go_simp <;> with_reducible rfl
      try simp only [Act.put, List.setIfInBounds_toArray, List.set_cons_zero, List.set_cons_succ]
      refine takeAt 8 (some 44) ?_ rfl rfl (by kernel_rfl) (by kernel_rfl) (by kernel_rfl) (fun _ _ _ h => h) (Or.inl ⟨by rfl, ?_⟩) hHeld ?_
      rotate_left
      · intro w hSw
        go_simp <;> with_reducible rfl
      try simp only [Act.put, List.setIfInBounds_toArray, List.set_cons_zero, List.set_cons_succ]
      refine takeAt 9 (some 45) ?_ rfl rfl (by kernel_rfl) (by kernel_rfl) (by kernel_rfl) (fun _ _ _ h => h) (Or.inl ⟨by rfl, ?_⟩) hHeld ?_
      rotate_left
      · intro w hSw
        go_simp <;> with_reducible rfl
      try simp only [Act.put, List.setIfInBounds_toArray, List.set_cons_zero, List.set_cons_succ]
      refine takeAt 10 (some 46) ?_ rfl rfl (by kernel_rfl) (by kernel_rfl) (by kernel_rfl) (fun _ _ _ h => h) (Or.inl ⟨by rfl, ?_⟩) hHeld ?_
      rotate_left
      · intro w hSw
        go_simp <;> with_reducible rfl
      try simp only [Act.put, List.setIfInBounds_toArray, List.set_cons_zero, List.set_cons_succ]
      refine takeAt 12 (some 48) ?_ rfl rfl (by kernel_rfl) (by kernel_rfl) (by kernel_rfl) (fun _ _ _ h => h) (Or.inl ⟨by rfl, ?_⟩) hHeld ?_
      rotate_left
      · intro w hSw
        go_simp <;> with_reducible rfl
      try simp only [Act.put, List.setIfInBounds_toArray, List.set_cons_zero, List.set_cons_succ]
      refine callAtG 11 47 14 (vals := #[.pointer (some ⟨t, 0, none⟩)]) (by kernel_rfl) rfl rfl rfl (by rfl) (by simp [Act.eval]) Try.func14 (by kernel_rfl) (by kernel_rfl) ?_
      refine Calls.mono (F3.out) ?_
      rintro e w5 ⟨rfl, q⟩
      have G3 : Hid _ := q
      clear q
      refine ⟨_, rfl, show Tc _ _ _ from G3.out.cell, fun hHeld => ?_⟩
      try simp only [Act.put, List.setIfInBounds_toArray, List.set_cons_zero, List.set_cons_succ]
      have F4 := F.out.2.2.2.1 _ G3.out
      refine callAtG 13 49 26 (vals := #[.pointer (some ⟨r, 0, none⟩)]) (by kernel_rfl) rfl rfl rfl (by rfl) (by simp [Act.eval]) Try.func26 (by kernel_rfl) (by kernel_rfl) ?_
      refine Calls.mono (F4.out) ?_
      rintro e w6 ⟨rfl, q⟩
      have G4 : Hid _ := q
      clear q
      refine ⟨_, rfl, show Tc _ _ _ from G4.out.cell, fun hHeld => ?_⟩
      try simp only [Act.put, List.setIfInBounds_toArray, List.set_cons_zero, List.set_cons_succ]
      have F5 := F.out.2.2.2.2 _ G4.out
      refine takeAt 14 (some 50) ?_ rfl rfl (by kernel_rfl) (by kernel_rfl) (by kernel_rfl) (fun _ _ _ h => h) (Or.inl ⟨by rfl, ?_⟩) hHeld ?_
      rotate_left
      · intro w hSw
        go_simp <;> with_reducible rfl
      try simp only [Act.put, List.setIfInBounds_toArray, List.set_cons_zero, List.set_cons_succ]
      refine takeAt 15 (some 51) ?_ rfl rfl (by kernel_rfl) (by kernel_rfl) (by kernel_rfl) (fun _ _ _ h => h) (Or.inl ⟨by rfl, ?_⟩) hHeld ?_
      rotate_left
      · intro w hSw
        go_simp <;> with_reducible rfl
      try simp only [Act.put, List.setIfInBounds_toArray, List.set_cons_zero, List.set_cons_succ]
      refine takeAt 16 (some 52) ?_ rfl rfl (by kernel_rfl) (by kernel_rfl) (by kernel_rfl) (fun _ _ _ h => h) (Or.inl ⟨by rfl, ?_⟩) hHeld ?_
      rotate_left
      · intro w hSw
        go_simp <;> with_reducible rfl
      try simp only [Act.put, List.setIfInBounds_toArray, List.set_cons_zero, List.set_cons_succ]
      refine takeAt 17 (some 53) ?_ rfl rfl (by kernel_rfl) (by kernel_rfl) (by kernel_rfl) (fun _ _ _ h => h) (Or.inl ⟨by rfl, ?_⟩) hHeld ?_
      rotate_left
      · intro w hSw
        go_simp <;> with_reducible rfl
      try simp only [Act.put, List.setIfInBounds_toArray, List.set_cons_zero, List.set_cons_succ]
      refine takeAt 19 (some 55) ?_ rfl rfl (by kernel_rfl) (by kernel_rfl) (by kernel_rfl) (fun _ _ _ h => h) (Or.inl ⟨by rfl, ?_⟩) hHeld ?_
      rotate_left
      · intro w hSw
        go_simp <;> with_reducible rfl
      try simp only [Act.put, List.setIfInBounds_toArray, List.set_cons_zero, List.set_cons_succ]
      refine takeAt 20 (some 56) ?_ rfl rfl (by kernel_rfl) (by kernel_rfl) (by kernel_rfl) (fun _ _ _ h => h) (Or.inl ⟨by rfl, ?_⟩) hHeld ?_
      rotate_left
      · intro w hSw
        go_simp <;> with_reducible rfl
      try simp only [Act.put, List.setIfInBounds_toArray, List.set_cons_zero, List.set_cons_succ]
      refine takeAt 21 (some 57) ?_ rfl rfl (by kernel_rfl) (by kernel_rfl) (by kernel_rfl) (fun _ _ _ h => h) (Or.inl ⟨by rfl, ?_⟩) hHeld ?_
      rotate_left
      · intro w hSw
        go_simp <;> with_reducible rfl
      try simp only [Act.put, List.setIfInBounds_toArray, List.set_cons_zero, List.set_cons_succ]
      refine takeAt 22 (some 58) ?_ rfl rfl (by kernel_rfl) (by kernel_rfl) (by kernel_rfl) (fun _ _ _ h => h) (Or.inl ⟨by rfl, ?_⟩) hHeld ?_
      rotate_left
      · intro w hSw
        go_simp <;> with_reducible rfl
      try simp only [Act.put, List.setIfInBounds_toArray, List.set_cons_zero, List.set_cons_succ]
      refine callAtG 18 54 13 (vals := #[.pointer (some ⟨t, 0, none⟩)]) (by kernel_rfl) rfl rfl rfl (by rfl) (by simp [Act.eval]) Try.func13 (by kernel_rfl) (by kernel_rfl) ?_
      refine Calls.mono (F5.out) ?_
      rintro e w7 ⟨gb, rfl, q⟩
      have G5 : Hid _ := q
      clear q
      refine ⟨_, rfl, show Tc _ _ _ from G5.out.2.cell, fun hHeld => ?_⟩
      try simp only [Act.put, List.setIfInBounds_toArray, List.set_cons_zero, List.set_cons_succ]
      refine callAtG 23 59 12 (vals := #[.slice (some ⟨gb, 0, none⟩) R R, .slice ra R rc]) (by kernel_rfl) rfl rfl rfl (by rfl) (by simp [Act.eval]) Try.func12 (by kernel_rfl) (by kernel_rfl) ?_
      refine Calls.mono (same_true G5.out.1 G5.out.2.lies (by have := HR.out; omega)) ?_
      rintro e w8 ⟨rfl, q, rfl⟩
      have G6 : Hid _ := G5.out.2.under (below_drewN _ q)
      refine ⟨_, rfl, show Tc _ _ _ from G6.out.cell, fun hHeld => ?_⟩
      try simp only [Act.put, List.setIfInBounds_toArray, List.set_cons_zero, List.set_cons_succ]
      refine takeAt 24 (some 60) ?_ rfl rfl (by kernel_rfl) (by kernel_rfl) (by kernel_rfl) (fun _ _ _ h => h) (Or.inl ⟨by rfl, ?_⟩) hHeld ?_
      rotate_left
      · intro w hSw
        go_simp <;> with_reducible rfl
      try simp only [Act.put, List.setIfInBounds_toArray, List.set_cons_zero, List.set_cons_succ]
      refine takeAt 25 (some 61) ?_ rfl rfl (by kernel_rfl) (by kernel_rfl) (by kernel_rfl) (fun _ _ _ h => h) (Or.inl ⟨by rfl, ?_⟩) hHeld ?_
      rotate_left
      · intro w hSw
        go_simp <;> with_reducible rfl
      try simp only [Act.put, List.setIfInBounds_toArray, List.set_cons_zero, List.set_cons_succ]
      refine wpAnyH_done (by kernel_rfl) ?_ _
      refine NoPanic.normal ?_
      go_wp2_with fail
      go_roundw
      case rel => exact ⟨i + 1, ls', by omega, by go_num, HT.out.2.1, HT.out.2.2, G6.out.two⟩
      case measure => simp [intOf]; omega
    · obtain rfl : i = P := by omega
      have hd3 : decide ((i : Int) < (i : Int)) = false := by simp
      have hls : ls.length ≤ 20000 := by omega
      have hsz : sizes ls < 3000000000000000000 := by
        have := sizes_le hys
        have : ls.length * reachBytes ≤ 20000 * reachBytes := Nat.mul_le_mul_right _ hls
        omega
      obtain ⟨ra, rc, hTL⟩ := hO.withL
      obtain ⟨R, hR⟩ : ∃ R, ls.length = R := ⟨_, rfl⟩
      obtain ⟨Z, hZ⟩ : ∃ Z, sizes ls = Z := ⟨_, rfl⟩
      have HR : Hid (ls.length = R ∧ R ≤ 20000) := ⟨hR, by omega⟩
      have F : Hid ((TwoL W.heap.size W t r ls (10000 + 227920 * i) (.slice ra R rc) wr → Hid (Calls Try.prog 18 #[.pointer (some ⟨t, 0, none⟩)] wr fun e w' => e = .returned (.int .i64 R) ∧ TwoL W.heap.size W t r ls (10000 + 227920 * i) (.slice ra R rc) w')) ∧
        (∀ x, TwoL W.heap.size W t r ls (10000 + 227920 * i) (.slice ra R rc) x → Hid (Calls Try.prog 25 #[.pointer (some ⟨r, 0, none⟩)] x fun e w' => e = .returned (.int .i64 R) ∧ TwoL W.heap.size W t r ls (10000 + 227920 * i) (.slice ra R rc) w')) ∧
        (∀ x, TwoL W.heap.size W t r ls (10000 + 227920 * i) (.slice ra R rc) x → Hid (Calls Try.prog 14 #[.pointer (some ⟨t, 0, none⟩)] x fun e w' => e = .returned (.int .i64 Z) ∧ TwoL W.heap.size W t r ls (10000 + 227920 * i) (.slice ra R rc) w')) ∧
        (∀ x, TwoL W.heap.size W t r ls (10000 + 227920 * i) (.slice ra R rc) x → Hid (Calls Try.prog 26 #[.pointer (some ⟨r, 0, none⟩)] x fun e w' => e = .returned (.int .i64 Z) ∧ TwoL W.heap.size W t r ls (10000 + 227920 * i) (.slice ra R rc) w')) ∧
        (∀ x, TwoL W.heap.size W t r ls (10000 + 227920 * i) (.slice ra R rc) x → Hid (Calls Try.prog 13 #[.pointer (some ⟨t, 0, none⟩)] x fun e w' => ∃ gb, e = .returned (.slice (some ⟨gb, 0, none⟩) R R) ∧ Lies nobody w' (.slice (some ⟨gb, 0, none⟩) R R) ls ∧ TwoL W.heap.size W t r ls (10000 + 227920 * i) (.slice ra R rc) w'))) := by
        rw [← hR, ← hZ]
        exact ⟨fun h => h.len, fun x h => h.rlen, fun x h => h.bytes, fun x h => h.rbytes (by omega) (by omega), fun x h => h.lines (by omega)⟩
      rw [hR] at hTL
      have HTL : Hid (TwoL W.heap.size W t r ls (10000 + 227920 * i) (.slice ra R rc) wr ∧ TwoL W.heap.size W t r ls (10000 + 227920 * i) (.slice ra R rc) wr.drew) := ⟨hTL, hTL.under (below_drewN wr 1)⟩
      have hTc : Tc ⟨r, 0, none⟩ (.slice ra R rc) wr.drew := HTL.out.2.cell
      have rule : ∀ w', Tc ⟨r, 0, none⟩ (.slice ra R rc) w' → w'.cell? ⟨r, 0, none⟩ = some (.slice ra R rc) := fun _ h => h
      clear hO hR hZ hTL hsz hls hys hll
      go_wp2_with fail
      have F5 := F.out.2.2.2.2 _ HTL.out.2
      refine wp_region_noPanic ?_
      refine wp_region_held_drew (S := Tc ⟨r, 0, none⟩ (.slice ra R rc)) (by kernel_rfl) (hTc) (fun hHeld => ?_)
      refine takeAt 0 (some 62) ?_ rfl rfl (by kernel_rfl) (by kernel_rfl) (by kernel_rfl) (fun _ _ _ h => h) (Or.inl ⟨by rfl, ?_⟩) hHeld ?_
      rotate_left
      · intro w hSw
        go_simp <;> with_reducible rfl
      try simp only [Act.put, List.setIfInBounds_toArray, List.set_cons_zero, List.set_cons_succ]
      refine takeAt 2 (some 64) ?_ rfl rfl (by kernel_rfl) (by kernel_rfl) (by kernel_rfl) (fun _ _ _ h => h) (Or.inl ⟨by rfl, ?_⟩) hHeld ?_
      rotate_left
      · intro w hSw
        go_simp <;> with_reducible rfl
      try simp only [Act.put, List.setIfInBounds_toArray, List.set_cons_zero, List.set_cons_succ]
      refine takeAt 3 (some 65) ?_ rfl rfl (by kernel_rfl) (by kernel_rfl) (by kernel_rfl) (fun _ _ _ h => h) (Or.inl ⟨by rfl, ?_⟩) hHeld ?_
      rotate_left
      · intro w hSw
        go_simp <;> with_reducible rfl
      try simp only [Act.put, List.setIfInBounds_toArray, List.set_cons_zero, List.set_cons_succ]
      refine takeAt 4 (some 66) ?_ rfl rfl (by kernel_rfl) (by kernel_rfl) (by kernel_rfl) (fun _ _ _ h => h) (Or.inl ⟨by rfl, ?_⟩) hHeld ?_
      rotate_left
      · intro w hSw
        go_simp <;> with_reducible rfl
      try simp only [Act.put, List.setIfInBounds_toArray, List.set_cons_zero, List.set_cons_succ]
      refine takeAt 5 (some 67) ?_ rfl rfl (by kernel_rfl) (by kernel_rfl) (by kernel_rfl) (fun _ _ _ h => h) (Or.inl ⟨by rfl, ?_⟩) hHeld ?_
      rotate_left
      · intro w hSw
        go_simp <;> with_reducible rfl
      try simp only [Act.put, List.setIfInBounds_toArray, List.set_cons_zero, List.set_cons_succ]
      refine callAt 1 63 13 (vals := #[.pointer (some ⟨t, 0, none⟩)]) (by kernel_rfl) rfl rfl rfl rfl (by simp [Act.eval]) Try.func13 (by kernel_rfl) (by kernel_rfl) ?_
      refine Calls.mono (F5.out) ?_
      rintro e w7 ⟨gb, rfl, q⟩
      have G5 : Hid _ := q
      clear q
      refine ⟨_, rfl, show Tc _ _ _ from G5.out.2.cell, fun hHeld => ?_⟩
      try simp only [Act.put, List.setIfInBounds_toArray, List.set_cons_zero, List.set_cons_succ]
      refine callAt 6 68 12 (vals := #[.slice (some ⟨gb, 0, none⟩) R R, .slice ra R rc]) (by kernel_rfl) rfl rfl rfl rfl (by simp [Act.eval]) Try.func12 (by kernel_rfl) (by kernel_rfl) ?_
      refine Calls.mono (same_true G5.out.1 G5.out.2.lies (by have := HR.out; omega)) ?_
      rintro e w8 ⟨rfl, q, rfl⟩
      have G6 : Hid _ := G5.out.2.under (below_drewN _ q)
      refine ⟨_, rfl, show Tc _ _ _ from G6.out.cell, fun hHeld => ?_⟩
      try simp only [Act.put, List.setIfInBounds_toArray, List.set_cons_zero, List.set_cons_succ]
      refine takeAt 7 (some 4) ?_ rfl rfl (by kernel_rfl) (by kernel_rfl) (by kernel_rfl) (fun _ _ _ h => h) (Or.inl ⟨by rfl, ?_⟩) hHeld ?_
      rotate_left
      · intro w hSw
        go_simp <;> with_reducible rfl
      try simp only [Act.put, List.setIfInBounds_toArray, List.set_cons_zero, List.set_cons_succ]
      refine wpAnyH_done (by kernel_rfl) ?_ _
      refine NoPanic.normal ?_
      go_wp2_with fail
      go_ret
      exact ⟨by simp, G6.out.two.below⟩
theorem walk (W : World) (v : Value) (ms : List ByteArray) (hv : Lies nobody W v ms ∧ ∀ n c, v = .slice none n c → n = 0 ∧ c = 0) (hb : ∀ y ∈ ms, y.size ≤ reachBytes) (v' : Value) (ps : List OpD) (hv' : OpsAt W v' ps) (hz : ∀ p ∈ ps, OpSz p) : Calls Try.prog 6 #[v, v'] W fun e w' => e = .returned (.bool true) ∧ Below W.heap.size W w' := by
  by_cases h : ms.length ≤ 300 ∧ ps.length ≤ 200 ∧ ∀ p ∈ ps, p.l.length ≤ 50
  · exact walk_in W ms ps v v' hv.1 hv.2 hv' h.1 h.2.1 h.2.2 hz hb
  · obtain ⟨a, cap, rfl, c1, c2⟩ := hv.1.form
    have ho := hv'
    obtain ⟨a', cap', rfl, p1, p2, _⟩ := hv'
    by_cases h3 : ms.length ≤ 300 ∧ ps.length ≤ 200
    · have := heavy_any W a a' _ cap _ cap' ps rfl ho h3.1 h3.2
      rw [show (ps.any fun p => decide (50 < p.l.length)) = true by
        rw [List.any_eq_true]
        apply Classical.byContradiction
        intro hne
        refine h ⟨h3.1, h3.2, fun p hp => ?_⟩
        apply Classical.byContradiction
        intro hq
        exact hne ⟨p, hp, by simp; omega⟩] at this
      exact walk_out W a a' _ cap _ cap' this
    · exact walk_out W a a' _ cap _ cap' (heavy_big W a a' _ cap _ cap' (by omega))

set_option maxRecDepth 100000 in
theorem lifted (os : Os) (started : os.Started) (H : Type) (enc : TypeId × Value → H) :
    ReturnsInHanded {} Try.checked os 6 .any (Rows.treeDoesSpec.pre6 enc Try.prog Try.f6 Rows.treeDoesRow.domain false) (Rows.treeDoesSpec.post enc Try.prog Try.f6 false true false false) := by
  refine returnsInHanded_of_change_sized (C := Try.checked) own started (by kernel_rfl) Try.func6
    (ChangeSpec.witness6 (enc := enc) (C := Try.checked) false ⟨#[], #[.slice none 0 0, .slice none 0 0], []⟩ 8 (by kernel_rfl) (by kernel_rfl) (by kernel_rfl) (by kernel_rfl)) ?_
  intro W base args ds gs before hval0 hW hcnd hsized0 _
  have hval : ∀ (j : Nat) t v, Try.f6.params[j]? = some t → args[j]? = some v → Value.okWide Try.prog W .any base t v := hval0
  have hW' := hW
  obtain ⟨p, q, hA0, hV, rfl, hfz, hnd⟩ := hW
  have hA : DataW.TrodAll enc Try.prog W 0 (fun _ => true) true Try.f6.params.toList args.toList ds p := hA0
  have hsized : (DataW.weightsEach Try.prog (Try.f6.params.toList ++ Rows.treeDoesSpec.plain.varTypes Try.prog) (ds ++ gs)).all (· ≤ reachBytes) = true := hsized0
  rw [Try.params6] at hA hval hsized
  obtain ⟨v0, vs0, d0, ds0, p0, q0, hargs, rfl, rfl, h0, r0⟩ := trodAll_cons hA
  obtain ⟨v1, vs1, d1, ds1, p1, q1, rfl, rfl, rfl, h1, r1⟩ := trodAll_cons r0
  obtain ⟨rfl, rfl, rfl⟩ := trodAll_nil r1
  obtain rfl : args = #[v0, v1] := by cases args; simp_all
  obtain ⟨rfl, rfl⟩ := trodVars_none hV
  have s0 := weights_all hsized (j := 0) rfl rfl
  have s1 := weights_all hsized (j := 1) rfl rfl
  have k0 := h0
  have lt0 : ∀ x ∈ p0, x.block < W.heap.size := by obtain ⟨m, hm⟩ := k0; exact DataW.trod_lt m _ _ _ hm
  obtain ⟨a0, w0, z0⟩ := strs_formn (hval 0 22 v0 rfl rfl) h0
  have k1 := h1
  have lt1 : ∀ x ∈ p1, x.block < W.heap.size := by obtain ⟨m, hm⟩ := k1; exact DataW.trod_lt m _ _ _ hm
  obtain ⟨a1, w1, z1⟩ := ops_form (hval 1 44 v1 rfl rfl) h1
  clear hA0 hval0 hsized0
  refine (walk W v0 a0 w0 (z0 s0) v1 a1 w1 (z1 s1)).mono fun e W' ⟨he, bel⟩ => ?_
  subst he
  exact ⟨_, rfl, _, _, _, [], _, [], hW', trodAll_mk1 (shut_bool Try.underlying4 _), (trodAll_cons_mk (Below.trod laidOut (by kernel_rfl) (of_decide_eq_true (by kernel_rfl)) k0 bel lt0) (trodAll_cons_mk (Below.trod laidOut (by kernel_rfl) (of_decide_eq_true (by kernel_rfl)) k1 bel lt1) trodAll_mk0)), rfl, bel.frame _, fun h => by cases h⟩

theorem over : Rows.treeDoesRow.holds Try.pinned (OpenSpec.ofChange Rows.treeDoesSpec) :=
  OpenClaim.holds_of_wide 6 Try.f6 rfl rfl rfl rfl rfl rfl rfl ⟨rfl, rfl, rfl, rfl, rfl⟩ rfl rfl rfl rfl rfl (by kernel_rfl) Try.func6 (by kernel_rfl)
    (of_decide_eq_true (by kernel_rfl)) (by unfold Func.isWrapper; first | (rw [if_pos (by decide +kernel)]; kernel_rfl) | (rw [if_neg (by decide +kernel)]; exact ⟨rfl, rfl⟩))
    (fun os started H enc _ => lifted os started H enc)

end Go.Proofs.Ytfnhbjokokjhfaa.treeDoes
namespace Go.Proofs.Ytfnhbjokokjhfaa
theorem treeDoes_holds : Rows.TreeDoesSaid := treeDoes.over
#print axioms treeDoes_holds
end Go.Proofs.Ytfnhbjokokjhfaa
