/- Texts that the proof of the law stands on: VG, VI, VH, VJ, VK, VL, VN. -/
import Derived.Test.YtomiblpgjkmmcaaPartA
import Derived.Lib.MinMax
/- emendatorref12.texts, Same: of equal ones. -/
namespace Go.Proofs.Ytomiblpgjkmmcaa
open Go.ChangeShapes Go.WideShapes Go.ChangeAt Go.RowKit Go.Maps Go.MapKept
set_option linter.unusedVariables false
set_option linter.unusedSimpArgs false
set_option maxRecDepth 100000
set_option maxHeartbeats 4000000 in
theorem texts_eq {P Q : Nat → Prop} {v1 v2 : Value} {l : List ByteArray} {w : World} (h1 : Sl P v1 l w) (h2 : Sl Q v2 l w) :
    Calls Try.prog 40 #[v1, v2] w fun e w' => e = .returned (.bool true) ∧ ∃ q, w' = w.drewN q := by
  obtain ⟨a1, c1, rfl, p1, p2, _⟩ := h1.form
  obtain ⟨a2, c2, rfl, _⟩ := h2.form
  obtain ⟨n, hn⟩ : ∃ n, l.length = n := ⟨_, rfl⟩
  rw [hn] at h1 h2 p1 ⊢
  have HA : Hid (Sl P (.slice a1 n c1) l w ∧ Sl Q (.slice a2 n c2) l w ∧ l.length = n) := ⟨h1, h2, hn⟩
  have hd0 : ((n : Int) != (n : Int)) = false := by simp
  unfold maxLen at p2
  have hn9 : n ≤ 9223372036854775807 := by omega
  clear h1 h2 hn p1 p2
  go_enter Try.func40, Try.ntmps40
  go_wp2_with fail
  go_loopw [5] (fun vi wr => ∃ i : Nat, i ≤ n ∧ vi = .int .i64 i ∧ ∃ q, wr = w.drewN q) (fun vi _ => n - (intOf vi).toNat)
  case atStart => exact ⟨0, Nat.zero_le _, rfl, 0, rfl⟩
  case round =>
    obtain ⟨i, hi, rfl, q, rfl⟩ := hrel
    by_cases hlt : i < n
    · have hdl : decide ((i : Int) < (n : Int)) = true := decide_eq_true (by omega)
      obtain ⟨s, hs⟩ : ∃ s, l[i]? = some s := ⟨_, List.getElem?_eq_getElem (by rw [HA.out.2.2]; exact hlt)⟩
      obtain ⟨g1, o1, rfl, _, e1⟩ := HA.out.1.at_ hs
      obtain ⟨g2, o2, rfl, _, e2⟩ := HA.out.2.1.at_ hs
      have hli : (i : Int) < (n : Int) := by omega
      clear hs
      go_wp2_with fail
      go_quiet (fail)
      go_wp2_with fail
      go_roundw
      case rel => exact ⟨i + 1, by omega, by go_num, _, rfl⟩
      case measure => simp only [intOf]; omega
    · obtain rfl : i = n := by omega
      have hdl : decide ((i : Int) < (i : Int)) = false := by simp
      go_wp2_with fail
      go_ret
      exact ⟨rfl, _, rfl⟩
set_option maxHeartbeats 16000000 in
theorem same_eq {P Q : Nat → Prop} {X Y : Xl} {B C : Nat} (okx : Okx B X) (oky : Okx C Y) {v1 v2 : Value} {ds : List Dl} {w : World} (h1 : Dr P X v1 ds w) (h2 : Dr Q Y v2 ds w) :
    Calls Try.prog 20 #[v1, v2] w fun e w' => e = .returned (.bool true) ∧ ∃ q, w' = w.drewN q := by
  obtain ⟨a1, c1, rfl, p1, p2, _⟩ := h1.form
  obtain ⟨a2, c2, rfl, _⟩ := h2.form
  obtain ⟨n, hn⟩ : ∃ n, ds.length = n := ⟨_, rfl⟩
  rw [hn] at h1 h2 p1 ⊢
  have HA : Hid (Dr P X (.slice a1 n c1) ds w ∧ Dr Q Y (.slice a2 n c2) ds w ∧ ds.length = n) := ⟨h1, h2, hn⟩
  have hd0 : ((n : Int) != (n : Int)) = false := by simp
  unfold maxLen at p2
  have hn9 : n ≤ 9223372036854775807 := by omega
  clear h1 h2 hn p1 p2
  go_enter Try.func20, Try.ntmps20
  go_wp2_with fail
  go_loopw [5] (fun vi wr => ∃ i : Nat, i ≤ n ∧ vi = .int .i64 i ∧ ∃ q, wr = w.drewN q) (fun vi _ => n - (intOf vi).toNat)
  case atStart => exact ⟨0, Nat.zero_le _, rfl, 0, rfl⟩
  case round =>
    obtain ⟨i, hi, rfl, q, rfl⟩ := hrel
    by_cases hlt : i < n
    · have hdl : decide ((i : Int) < (n : Int)) = true := decide_eq_true (by omega)
      have hl2 : i < n := hlt
      obtain ⟨d, hd⟩ : ∃ d, ds[i]? = some d := ⟨_, List.getElem?_eq_getElem (by rw [HA.out.2.2]; exact hlt)⟩
      obtain ⟨g1, o1, x1, y1, rfl, _, c0, c1', c2', r1, r2⟩ := (HA.out.1.kp okx (kp_drewN w q)).at_ hd
      obtain ⟨g2, o2, x2, y2, rfl, _, c3, c4, c5, r3, r4⟩ := (HA.out.2.1.kp oky (kp_drewN w q)).at_ hd
      obtain ⟨f1, m1, rfl, _⟩ := (okx.sl r1).form
      obtain ⟨f2, m2, rfl, _⟩ := (okx.sl r2).form
      obtain ⟨f3, m3, rfl, _⟩ := (oky.sl r3).form
      obtain ⟨f4, m4, rfl, _⟩ := (oky.sl r4).form
      have HT1 : Hid (∀ m, Calls Try.prog 40 #[.slice f1 d.old.length m1, .slice f3 d.old.length m3] ((w.drewN q).drewN m) fun e w' => e = .returned (.bool true) ∧ ∃ k, w' = (w.drewN q).drewN k) := fun m => (texts_eq ((okx.sl r1).kp (kp_drewN _ m)) ((oky.sl r3).kp (kp_drewN _ m))).mono (by rintro e w' ⟨rfl, k, rfl⟩; exact ⟨rfl, m + k, by rw [drew2]⟩)
      have HT2 : Hid (∀ m, Calls Try.prog 40 #[.slice f2 d.nw.length m2, .slice f4 d.nw.length m4] ((w.drewN q).drewN m) fun e w' => e = .returned (.bool true) ∧ ∃ k, w' = (w.drewN q).drewN k) := fun m => (texts_eq ((okx.sl r2).kp (kp_drewN _ m)) ((oky.sl r4).kp (kp_drewN _ m))).mono (by rintro e w' ⟨rfl, k, rfl⟩; exact ⟨rfl, m + k, by rw [drew2]⟩)
      generalize d.old.length = n1 at HT1 c1' c4
      generalize d.nw.length = n2 at HT2 c2' c5
      generalize d.at_ = at0 at c0 c3
      have hda : (at0 != at0) = false := by simp
      clear r1 r2 r3 r4 hd HA
      go_upto_region 6 with fail
      obtain ⟨W1, hW1⟩ : ∃ W1, w.drewN q = W1 := ⟨_, rfl⟩
      have HW : Hid (w.drewN q = W1) := hW1
      rw [hW1] at HT1 HT2 c0 c1' c2' c3 c4 c5 ⊢
      clear hW1
      refine wp_region_noPanic ?_
      refine wp_region_held_drew (S := fun z => z.cell? ⟨g1, o1 + i * 3, none⟩ = some (.int .i64 at0) ∧ z.cell? ⟨g1, o1 + i * 3 + 1, none⟩ = some (.slice f1 n1 m1) ∧ z.cell? ⟨g1, o1 + i * 3 + 2, none⟩ = some (.slice f2 n2 m2) ∧ z.cell? ⟨g2, o2 + i * 3, none⟩ = some (.int .i64 at0) ∧ z.cell? ⟨g2, o2 + i * 3 + 1, none⟩ = some (.slice f3 n1 m3) ∧ z.cell? ⟨g2, o2 + i * 3 + 2, none⟩ = some (.slice f4 n2 m4)) (by kernel_rfl) (⟨c0, c1', c2', c3, c4, c5⟩) (fun hHeld => ?_)
      refine takeAt 0 (some 17) ?_ rfl rfl (by kernel_rfl) (by kernel_rfl) (by kernel_rfl) (fun _ _ _ h => h) (Or.inl ⟨by rfl, ?_⟩) hHeld ?_
      rotate_left
      · intro w hSw
        go_simp <;> with_reducible rfl
      try simp only [Act.put, List.setIfInBounds_toArray, List.set_cons_zero, List.set_cons_succ]
      refine takeAt 1 (some 18) ?_ rfl rfl (by kernel_rfl) (by kernel_rfl) (by kernel_rfl) (fun _ _ _ h => h) (Or.inl ⟨by rfl, ?_⟩) hHeld ?_
      rotate_left
      · intro w hSw
        go_simp <;> with_reducible rfl
      try simp only [Act.put, List.setIfInBounds_toArray, List.set_cons_zero, List.set_cons_succ]
      refine takeAt 2 (some 19) ?_ rfl rfl (by kernel_rfl) (by kernel_rfl) (by kernel_rfl) (fun _ _ _ h => h) (Or.inl ⟨by rfl, ?_⟩) hHeld ?_
      rotate_left
      · intro w hSw
        go_simp <;> with_reducible rfl
      try simp only [Act.put, List.setIfInBounds_toArray, List.set_cons_zero, List.set_cons_succ]
      refine takeAt 3 (some 20) ?_ rfl rfl (by kernel_rfl) (by kernel_rfl) (by kernel_rfl) (fun _ _ _ h => h) (Or.inl ⟨by rfl, ?_⟩) hHeld ?_
      rotate_left
      · intro w hSw
        go_simp <;> with_reducible rfl
      try simp only [Act.put, List.setIfInBounds_toArray, List.set_cons_zero, List.set_cons_succ]
      refine takeAt 4 (some 21) ?_ rfl rfl (by kernel_rfl) (by kernel_rfl) (by kernel_rfl) (fun _ _ _ h => h) (Or.inl ⟨by rfl, ?_⟩) hHeld ?_
      rotate_left
      · intro w hSw
        go_simp <;> with_reducible rfl
      try simp only [Act.put, List.setIfInBounds_toArray, List.set_cons_zero, List.set_cons_succ]
      refine takeAt 5 (some 22) ?_ rfl rfl (by kernel_rfl) (by kernel_rfl) (by kernel_rfl) (fun _ _ _ h => h) (Or.inl ⟨by rfl, ?_⟩) hHeld ?_
      rotate_left
      · intro w hSw
        go_simp <;> with_reducible rfl
      try simp only [Act.put, List.setIfInBounds_toArray, List.set_cons_zero, List.set_cons_succ]
      refine takeAt 6 (some 23) ?_ rfl rfl (by kernel_rfl) (by kernel_rfl) (by kernel_rfl) (fun _ _ _ h => h) (Or.inl ⟨by rfl, ?_⟩) hHeld ?_
      rotate_left
      · intro w hSw
        go_simp <;> with_reducible rfl
      try simp only [Act.put, List.setIfInBounds_toArray, List.set_cons_zero, List.set_cons_succ]
      refine takeAt 7 (some 24) ?_ rfl rfl (by kernel_rfl) (by kernel_rfl) (by kernel_rfl) (fun _ _ _ h => h) (Or.inl ⟨by rfl, ?_⟩) hHeld ?_
      rotate_left
      · intro w hSw
        go_simp <;> with_reducible rfl
      try simp only [Act.put, List.setIfInBounds_toArray, List.set_cons_zero, List.set_cons_succ]
      refine takeAt 8 (some 25) ?_ rfl rfl (by kernel_rfl) (by kernel_rfl) (by kernel_rfl) (fun _ _ _ h => h) (Or.inl ⟨by rfl, ?_⟩) hHeld ?_
      rotate_left
      · intro w hSw
        go_simp <;> with_reducible rfl
      try simp only [Act.put, List.setIfInBounds_toArray, List.set_cons_zero, List.set_cons_succ]
      refine takeAt 9 (some 26) ?_ rfl rfl (by kernel_rfl) (by kernel_rfl) (by kernel_rfl) (fun _ _ _ h => h) (Or.inl ⟨by rfl, ?_⟩) hHeld ?_
      rotate_left
      · intro w hSw
        go_simp <;> with_reducible rfl
      try simp only [Act.put, List.setIfInBounds_toArray, List.set_cons_zero, List.set_cons_succ]
      refine takeAt 10 (some 27) ?_ rfl rfl (by kernel_rfl) (by kernel_rfl) (by kernel_rfl) (fun _ _ _ h => h) (Or.inl ⟨by rfl, ?_⟩) hHeld ?_
      rotate_left
      · intro w hSw
        go_simp <;> with_reducible rfl
      try simp only [Act.put, List.setIfInBounds_toArray, List.set_cons_zero, List.set_cons_succ]
      refine takeAt 11 (some 28) ?_ rfl rfl (by kernel_rfl) (by kernel_rfl) (by kernel_rfl) (fun _ _ _ h => h) (Or.inl ⟨by rfl, ?_⟩) hHeld ?_
      rotate_left
      · intro w hSw
        go_simp <;> with_reducible rfl
      try simp only [Act.put, List.setIfInBounds_toArray, List.set_cons_zero, List.set_cons_succ]
      refine takeAt 12 (some 29) ?_ rfl rfl (by kernel_rfl) (by kernel_rfl) (by kernel_rfl) (fun _ _ _ h => h) (Or.inl ⟨by rfl, ?_⟩) hHeld ?_
      rotate_left
      · intro w hSw
        go_simp <;> with_reducible rfl
      try simp only [Act.put, List.setIfInBounds_toArray, List.set_cons_zero, List.set_cons_succ]
      refine takeAt 13 (some 30) ?_ rfl rfl (by kernel_rfl) (by kernel_rfl) (by kernel_rfl) (fun _ _ _ h => h) (Or.inl ⟨by rfl, ?_⟩) hHeld ?_
      rotate_left
      · intro w hSw
        go_simp <;> with_reducible rfl
      try simp only [Act.put, List.setIfInBounds_toArray, List.set_cons_zero, List.set_cons_succ]
      refine takeAt 14 (some 31) ?_ rfl rfl (by kernel_rfl) (by kernel_rfl) (by kernel_rfl) (fun _ _ _ h => h) (Or.inl ⟨by rfl, ?_⟩) hHeld ?_
      rotate_left
      · intro w hSw
        go_simp <;> with_reducible rfl
      try simp only [Act.put, List.setIfInBounds_toArray, List.set_cons_zero, List.set_cons_succ]
      refine takeAt 15 (some 32) ?_ rfl rfl (by kernel_rfl) (by kernel_rfl) (by kernel_rfl) (fun _ _ _ h => h) (Or.inl ⟨by rfl, ?_⟩) hHeld ?_
      rotate_left
      · intro w hSw
        go_simp <;> with_reducible rfl
      try simp only [Act.put, List.setIfInBounds_toArray, List.set_cons_zero, List.set_cons_succ]
      refine takeAt 16 (some 33) ?_ rfl rfl (by kernel_rfl) (by kernel_rfl) (by kernel_rfl) (fun _ _ _ h => h) (Or.inl ⟨by rfl, ?_⟩) hHeld ?_
      rotate_left
      · intro w hSw
        go_simp <;> with_reducible rfl
      try simp only [Act.put, List.setIfInBounds_toArray, List.set_cons_zero, List.set_cons_succ]
      refine takeAt 17 (some 34) ?_ rfl rfl (by kernel_rfl) (by kernel_rfl) (by kernel_rfl) (fun _ _ _ h => h) (Or.inl ⟨by rfl, ?_⟩) hHeld ?_
      rotate_left
      · intro w hSw
        go_simp <;> with_reducible rfl
      try simp only [Act.put, List.setIfInBounds_toArray, List.set_cons_zero, List.set_cons_succ]
      refine takeAt 18 (some 35) ?_ rfl rfl (by kernel_rfl) (by kernel_rfl) (by kernel_rfl) (fun _ _ _ h => h) (Or.inl ⟨by rfl, ?_⟩) hHeld ?_
      rotate_left
      · intro w hSw
        go_simp <;> with_reducible rfl
      try simp only [Act.put, List.setIfInBounds_toArray, List.set_cons_zero, List.set_cons_succ]
      refine takeAt 19 (some 36) ?_ rfl rfl (by kernel_rfl) (by kernel_rfl) (by kernel_rfl) (fun _ _ _ h => h) (Or.inl ⟨by rfl, ?_⟩) hHeld ?_
      rotate_left
      · intro w hSw
        go_simp <;> with_reducible rfl
      try simp only [Act.put, List.setIfInBounds_toArray, List.set_cons_zero, List.set_cons_succ]
      refine takeAt 20 (some 37) ?_ rfl rfl (by kernel_rfl) (by kernel_rfl) (by kernel_rfl) (fun _ _ _ h => h) (Or.inl ⟨by rfl, ?_⟩) hHeld ?_
      rotate_left
      · intro w hSw
        go_simp <;> with_reducible rfl
      try simp only [Act.put, List.setIfInBounds_toArray, List.set_cons_zero, List.set_cons_succ]
      refine takeAt 21 (some 38) ?_ rfl rfl (by kernel_rfl) (by kernel_rfl) (by kernel_rfl) (fun _ _ _ h => h) (Or.inl ⟨by rfl, ?_⟩) hHeld ?_
      rotate_left
      · intro w hSw
        go_simp <;> with_reducible rfl
      try simp only [Act.put, List.setIfInBounds_toArray, List.set_cons_zero, List.set_cons_succ]
      refine callAtG 22 39 40 (vals := #[.slice f1 n1 m1, .slice f3 n1 m3]) (by kernel_rfl) rfl rfl rfl (by rfl) (by simp [Act.eval]) Try.func40 (by kernel_rfl) (by kernel_rfl) ?_
      refine Calls.mono (HT1.out 1) ?_
      rintro e w2 ⟨rfl, k2, rfl⟩
      refine ⟨_, rfl, ⟨kp_cell (kp_drewN _ k2) c0, kp_cell (kp_drewN _ k2) c1', kp_cell (kp_drewN _ k2) c2', kp_cell (kp_drewN _ k2) c3, kp_cell (kp_drewN _ k2) c4, kp_cell (kp_drewN _ k2) c5⟩, fun hHeld => ?_⟩
      try simp only [Act.put, List.setIfInBounds_toArray, List.set_cons_zero, List.set_cons_succ]
      refine takeAt 23 (some 40) ?_ rfl rfl (by kernel_rfl) (by kernel_rfl) (by kernel_rfl) (fun _ _ _ h => h) (Or.inl ⟨by rfl, ?_⟩) hHeld ?_
      rotate_left
      · intro w hSw
        go_simp <;> with_reducible rfl
      try simp only [Act.put, List.setIfInBounds_toArray, List.set_cons_zero, List.set_cons_succ]
      refine takeAt 24 (some 41) ?_ rfl rfl (by kernel_rfl) (by kernel_rfl) (by kernel_rfl) (fun _ _ _ h => h) (Or.inl ⟨by rfl, ?_⟩) hHeld ?_
      rotate_left
      · intro w hSw
        go_simp <;> with_reducible rfl
      try simp only [Act.put, List.setIfInBounds_toArray, List.set_cons_zero, List.set_cons_succ]
      refine takeAt 25 (some 42) ?_ rfl rfl (by kernel_rfl) (by kernel_rfl) (by kernel_rfl) (fun _ _ _ h => h) (Or.inl ⟨by rfl, ?_⟩) hHeld ?_
      rotate_left
      · intro w hSw
        go_simp <;> with_reducible rfl
      try simp only [Act.put, List.setIfInBounds_toArray, List.set_cons_zero, List.set_cons_succ]
      refine takeAt 26 (some 43) ?_ rfl rfl (by kernel_rfl) (by kernel_rfl) (by kernel_rfl) (fun _ _ _ h => h) (Or.inl ⟨by rfl, ?_⟩) hHeld ?_
      rotate_left
      · intro w hSw
        go_simp <;> with_reducible rfl
      try simp only [Act.put, List.setIfInBounds_toArray, List.set_cons_zero, List.set_cons_succ]
      refine takeAt 27 (some 44) ?_ rfl rfl (by kernel_rfl) (by kernel_rfl) (by kernel_rfl) (fun _ _ _ h => h) (Or.inl ⟨by rfl, ?_⟩) hHeld ?_
      rotate_left
      · intro w hSw
        go_simp <;> with_reducible rfl
      try simp only [Act.put, List.setIfInBounds_toArray, List.set_cons_zero, List.set_cons_succ]
      refine takeAt 28 (some 45) ?_ rfl rfl (by kernel_rfl) (by kernel_rfl) (by kernel_rfl) (fun _ _ _ h => h) (Or.inl ⟨by rfl, ?_⟩) hHeld ?_
      rotate_left
      · intro w hSw
        go_simp <;> with_reducible rfl
      try simp only [Act.put, List.setIfInBounds_toArray, List.set_cons_zero, List.set_cons_succ]
      refine takeAt 29 (some 46) ?_ rfl rfl (by kernel_rfl) (by kernel_rfl) (by kernel_rfl) (fun _ _ _ h => h) (Or.inl ⟨by rfl, ?_⟩) hHeld ?_
      rotate_left
      · intro w hSw
        go_simp <;> with_reducible rfl
      try simp only [Act.put, List.setIfInBounds_toArray, List.set_cons_zero, List.set_cons_succ]
      refine takeAt 30 (some 47) ?_ rfl rfl (by kernel_rfl) (by kernel_rfl) (by kernel_rfl) (fun _ _ _ h => h) (Or.inl ⟨by rfl, ?_⟩) hHeld ?_
      rotate_left
      · intro w hSw
        go_simp <;> with_reducible rfl
      try simp only [Act.put, List.setIfInBounds_toArray, List.set_cons_zero, List.set_cons_succ]
      refine takeAt 31 (some 48) ?_ rfl rfl (by kernel_rfl) (by kernel_rfl) (by kernel_rfl) (fun _ _ _ h => h) (Or.inl ⟨by rfl, ?_⟩) hHeld ?_
      rotate_left
      · intro w hSw
        go_simp <;> with_reducible rfl
      try simp only [Act.put, List.setIfInBounds_toArray, List.set_cons_zero, List.set_cons_succ]
      refine takeAt 32 (some 49) ?_ rfl rfl (by kernel_rfl) (by kernel_rfl) (by kernel_rfl) (fun _ _ _ h => h) (Or.inl ⟨by rfl, ?_⟩) hHeld ?_
      rotate_left
      · intro w hSw
        go_simp <;> with_reducible rfl
      try simp only [Act.put, List.setIfInBounds_toArray, List.set_cons_zero, List.set_cons_succ]
      refine takeAt 33 (some 50) ?_ rfl rfl (by kernel_rfl) (by kernel_rfl) (by kernel_rfl) (fun _ _ _ h => h) (Or.inl ⟨by rfl, ?_⟩) hHeld ?_
      rotate_left
      · intro w hSw
        go_simp <;> with_reducible rfl
      try simp only [Act.put, List.setIfInBounds_toArray, List.set_cons_zero, List.set_cons_succ]
      refine takeAt 34 (some 51) ?_ rfl rfl (by kernel_rfl) (by kernel_rfl) (by kernel_rfl) (fun _ _ _ h => h) (Or.inl ⟨by rfl, ?_⟩) hHeld ?_
      rotate_left
      · intro w hSw
        go_simp <;> with_reducible rfl
      try simp only [Act.put, List.setIfInBounds_toArray, List.set_cons_zero, List.set_cons_succ]
      refine takeAt 35 (some 52) ?_ rfl rfl (by kernel_rfl) (by kernel_rfl) (by kernel_rfl) (fun _ _ _ h => h) (Or.inl ⟨by rfl, ?_⟩) hHeld ?_
      rotate_left
      · intro w hSw
        go_simp <;> with_reducible rfl
      try simp only [Act.put, List.setIfInBounds_toArray, List.set_cons_zero, List.set_cons_succ]
      refine callAtG 36 53 40 (vals := #[.slice f2 n2 m2, .slice f4 n2 m4]) (by kernel_rfl) rfl rfl rfl (by rfl) (by simp [Act.eval]) Try.func40 (by kernel_rfl) (by kernel_rfl) ?_
      refine Calls.mono (HT2.out k2) ?_
      rintro e w3 ⟨rfl, k3, rfl⟩
      refine ⟨_, rfl, ⟨kp_cell (kp_drewN _ k3) c0, kp_cell (kp_drewN _ k3) c1', kp_cell (kp_drewN _ k3) c2', kp_cell (kp_drewN _ k3) c3, kp_cell (kp_drewN _ k3) c4, kp_cell (kp_drewN _ k3) c5⟩, fun hHeld => ?_⟩
      try simp only [Act.put, List.setIfInBounds_toArray, List.set_cons_zero, List.set_cons_succ]
      refine takeAt 37 (some 54) ?_ rfl rfl (by kernel_rfl) (by kernel_rfl) (by kernel_rfl) (fun _ _ _ h => h) (Or.inl ⟨by rfl, ?_⟩) hHeld ?_
      rotate_left
      · intro w hSw
        go_simp <;> with_reducible rfl
      try simp only [Act.put, List.setIfInBounds_toArray, List.set_cons_zero, List.set_cons_succ]
      refine takeAt 38 (some 55) ?_ rfl rfl (by kernel_rfl) (by kernel_rfl) (by kernel_rfl) (fun _ _ _ h => h) (Or.inl ⟨by rfl, ?_⟩) hHeld ?_
      rotate_left
      · intro w hSw
        go_simp <;> with_reducible rfl
      try simp only [Act.put, List.setIfInBounds_toArray, List.set_cons_zero, List.set_cons_succ]
      refine wpAnyH_done (by kernel_rfl) ?_ _
      refine NoPanic.normal ?_
      go_wp2_with fail
      go_roundw
      case rel => exact ⟨i + 1, by omega, by go_num, q + k3, by rw [← HW.out, drew2]⟩
      case measure => simp only [intOf]; omega
    · obtain rfl : i = n := by omega
      have hdl : decide ((i : Int) < (i : Int)) = false := by simp
      go_wp2_with fail
      go_ret
      exact ⟨rfl, _, rfl⟩
end Go.Proofs.Ytomiblpgjkmmcaa
/- emendatorref12.Turn. -/
namespace Go.Proofs.Ytomiblpgjkmmcaa
open Go.ChangeShapes Go.WideShapes Go.ChangeAt Go.RowKit Go.Maps Go.MapKept
set_option linter.unusedVariables false
set_option linter.unusedSimpArgs false
set_option maxRecDepth 100000
theorem turn_take (ds : List Dl) {i : Nat} {d : Dl} (h : ds[i]? = some d) : turnD (ds.drop i) = turnD (ds.drop (i + 1)) ++ [tn d] := by
  have hl := (List.getElem?_eq_some_iff.1 h)
  obtain ⟨h1, rfl⟩ := hl
  unfold turnD
  rw [List.drop_eq_getElem_cons h1, List.reverse_cons, List.map_append]; rfl
set_option maxHeartbeats 8000000 in
theorem rturn_any {P : Nat → Prop} {X : Xl} {v : Value} {ds : List Dl} {w : World} (ok : Okx w.heap.size X) (h : Dr P X v ds w) (hn : ds.length ≤ 2513169434916) :
    Calls Try.prog 28 #[v] w fun e w' => ∃ v', e = .returned v' ∧ Dx X w.heap.size v' (turnD ds) w' ∧ Kp w w' := by
  obtain ⟨a, cap, rfl, h1, h2, h3⟩ := h.form
  obtain ⟨n, hn0⟩ : ∃ n, ds.length = n := ⟨_, rfl⟩
  have HS : Hid (Dr P X (.slice a n cap) ds w ∧ ds.length = n) := ⟨by rw [← hn0]; exact h, hn0⟩
  rw [hn0] at hn ⊢
  clear h h1 h2 h3 hn0
  go_enter Try.func28, Try.ntmps28
  go_wp2_with fail
  go_loopw [3, 4] (fun v3 v4 wr => ∃ (i : Nat) (a' : Option Addr) (c' m : Nat), i + m = n ∧ v4 = .int .i64 ((i : Int) - 1) ∧ v3 = .slice a' m c' ∧ Hid (Dx X w.heap.size (.slice a' m c') (turnD (ds.drop i)) wr ∧ Kp w wr)) (fun _ v4 _ => (intOf v4 + 1).toNat)
  case atStart => exact ⟨n, none, 0, 0, by omega, by go_num, rfl, by rw [List.drop_eq_nil_of_le (by rw [HS.out.2]; exact Nat.le_refl _)]; exact Dx.nil _ _ _, Below.refl _ _⟩
  case round =>
    obtain ⟨i, a', c', m, hi, rfl, rfl, HI⟩ := hrel
    rcases Nat.eq_zero_or_pos i with q | q
    · subst q
      have d1 : decide (((0 : Nat) : Int) - 1 ≥ 0) = false := by decide
      have HX : Hid (Dx X w.heap.size (.slice a' m c') (turnD ds) wr ∧ Kp w wr) := HI.out
      clear HI
      go_wp2_with fail
      go_ret
      exact ⟨_, rfl, HX.out⟩
    · obtain ⟨k, rfl⟩ : ∃ k, i = k + 1 := ⟨i - 1, by omega⟩
      have ek : ((k + 1 : Nat) : Int) - 1 = (k : Int) := by omega
      rw [ek]
      have d1 : decide ((k : Int) ≥ 0) = true := decide_eq_true (by omega)
      have d2 : decide ((0 : Int) ≤ (k : Int)) = true := decide_eq_true (by omega)
      have hk : k < n := by omega
      obtain ⟨d, hd⟩ : ∃ d, ds[k]? = some d := ⟨_, List.getElem?_eq_getElem (by rw [HS.out.2]; exact hk)⟩
      obtain ⟨g, o, x, y, rfl, _, c0, c1, c2, hx, hy⟩ := HS.out.1.at_ hd
      have hgw : g < w.heap.size := World.block_lt_of_cell? _ _ c0
      replace c0 := kp_cell HI.out.2 c0
      replace c1 := kp_cell HI.out.2 c1
      replace c2 := kp_cell HI.out.2 c2
      replace hx := ok.kp hx HI.out.2
      replace hy := ok.kp hy HI.out.2
      obtain ⟨xa, xc, rfl, _⟩ := (ok.sl hx).form
      obtain ⟨ya, yc, rfl, _⟩ := (ok.sl hy).form
      have HX : Hid (X (.slice xa d.old.length xc) d.old wr ∧ X (.slice ya d.nw.length yc) d.nw wr) := ⟨hx, hy⟩
      have HD : Hid (turnD (ds.drop k) = turnD (ds.drop (k + 1)) ++ [tn d] ∧ (turnD (ds.drop (k + 1))).length + [tn d].length = m + 1) := ⟨turn_take ds hd, by rw [turnD_len, List.length_drop, HS.out.2]; simp; omega⟩
      clear hx hy hd
      have H4 : Hid (∀ W, Kp wr W → Dx X w.heap.size (.slice a' m c') (turnD (ds.drop (k + 1))) (W.alloc (.cells #[.int .i64 d.at_, .slice ya d.nw.length yc, .slice xa d.old.length xc] 35)) ∧ Dr (fun _ => True) X (.slice (some ⟨W.heap.size, 0, none⟩) 1 1) [tn d] (W.alloc (.cells #[.int .i64 d.at_, .slice ya d.nw.length yc, .slice xa d.old.length xc] 35)) ∧ w.heap.size ≤ (W.alloc (.cells #[.int .i64 d.at_, .slice ya d.nw.length yc, .slice xa d.old.length xc] 35)).heap.size ∧ True ∧ Below w.heap.size wr (W.alloc (.cells #[.int .i64 d.at_, .slice ya d.nw.length yc, .slice xa d.old.length xc] 35))) := fun W k => by
        have k2 : Kp wr (W.alloc (.cells #[.int .i64 d.at_, .slice ya d.nw.length yc, .slice xa d.old.length xc] 35)) := kp_more k _
        refine ⟨HI.out.1.kp ok k2, Dr.one (d := tn d) (ok.kp HX.out.2 k2) (ok.kp HX.out.1 k2) (Lc.new W _ _), by have := HI.out.2.size; have := k2.size; omega, trivial, k2.mono HI.out.2.size⟩
      have HKW : Hid (Kp w wr) := HI.out.2
      have HNE : Hid (some g ≠ (Value.slice a' m c').ownBlock) := fun e => by obtain ⟨cs, hr, _⟩ := HI.out.1; have := (hr.lt g e.symm).1; omega
      generalize d.old.length = n1 at *
      generalize d.nw.length = n2 at *
      clear HI HX
      go_upto_region 5 with fail
      have HF : Hid (∀ w5, Below w.heap.size wr w5 → ∀ a3 e3, Dx X w.heap.size (.slice a3 (m + 1) e3) (turnD (ds.drop (k + 1)) ++ [tn d]) w5 → Dx X w.heap.size (.slice a3 (m + 1) e3) (turnD (ds.drop k)) w5 ∧ Kp w w5) := fun w5 k5 a3 e3 q => ⟨by rw [HD.out.1]; exact q, HKW.out.trans k5⟩
      refine wp_region_noPanic ?_
      refine wp_region_held_drew (S := fun z => z.cell? ⟨g, o + k * 3, none⟩ = some (.int .i64 d.at_) ∧ z.cell? ⟨g, o + k * 3 + 1, none⟩ = some (.slice xa n1 xc) ∧ z.cell? ⟨g, o + k * 3 + 2, none⟩ = some (.slice ya n2 yc)) (by kernel_rfl) (⟨c0, c1, c2⟩) (fun hHeld => ?_)
      refine takeAt 0 (some 12) ?_ rfl rfl (by kernel_rfl) (by kernel_rfl) (by kernel_rfl) (fun _ _ _ h => h) (Or.inl ⟨by rfl, ?_⟩) hHeld ?_
      rotate_left
      · intro w hSw
        go_simp <;> with_reducible rfl
      try simp only [Act.put, List.setIfInBounds_toArray, List.set_cons_zero, List.set_cons_succ]
      refine takeAt 1 (some 13) ?_ rfl rfl (by kernel_rfl) (by kernel_rfl) (by kernel_rfl) (fun _ _ _ h => h) (Or.inl ⟨by rfl, ?_⟩) hHeld ?_
      rotate_left
      · intro w hSw
        go_simp <;> with_reducible rfl
      try simp only [Act.put, List.setIfInBounds_toArray, List.set_cons_zero, List.set_cons_succ]
      refine takeAt 2 (some 14) ?_ rfl rfl (by kernel_rfl) (by kernel_rfl) (by kernel_rfl) (fun _ _ _ h => h) (Or.inl ⟨by rfl, ?_⟩) hHeld ?_
      rotate_left
      · intro w hSw
        go_simp <;> with_reducible rfl
      try simp only [Act.put, List.setIfInBounds_toArray, List.set_cons_zero, List.set_cons_succ]
      refine takeAt 3 (some 15) ?_ rfl rfl (by kernel_rfl) (by kernel_rfl) (by kernel_rfl) (fun _ _ _ h => h) (Or.inl ⟨by rfl, ?_⟩) hHeld ?_
      rotate_left
      · intro w hSw
        go_simp <;> with_reducible rfl
      try simp only [Act.put, List.setIfInBounds_toArray, List.set_cons_zero, List.set_cons_succ]
      refine takeAt 4 (some 16) ?_ rfl rfl (by kernel_rfl) (by kernel_rfl) (by kernel_rfl) (fun _ _ _ h => h) (Or.inl ⟨by rfl, ?_⟩) hHeld ?_
      rotate_left
      · intro w hSw
        go_simp <;> with_reducible rfl
      try simp only [Act.put, List.setIfInBounds_toArray, List.set_cons_zero, List.set_cons_succ]
      refine takeAt 5 (some 17) ?_ rfl rfl (by kernel_rfl) (by kernel_rfl) (by kernel_rfl) (fun _ _ _ h => h) (Or.inl ⟨by rfl, ?_⟩) hHeld ?_
      rotate_left
      · intro w hSw
        go_simp <;> with_reducible rfl
      try simp only [Act.put, List.setIfInBounds_toArray, List.set_cons_zero, List.set_cons_succ]
      refine takeAt 6 (some 18) ?_ rfl rfl (by kernel_rfl) (by kernel_rfl) (by kernel_rfl) (fun _ _ _ h => h) (Or.inl ⟨by rfl, ?_⟩) hHeld ?_
      rotate_left
      · intro w hSw
        go_simp <;> with_reducible rfl
      try simp only [Act.put, List.setIfInBounds_toArray, List.set_cons_zero, List.set_cons_succ]
      refine takeAt 7 (some 19) ?_ rfl rfl (by kernel_rfl) (by kernel_rfl) (by kernel_rfl) (fun _ _ _ h => h) (Or.inl ⟨by rfl, ?_⟩) hHeld ?_
      rotate_left
      · intro w hSw
        go_simp <;> with_reducible rfl
      try simp only [Act.put, List.setIfInBounds_toArray, List.set_cons_zero, List.set_cons_succ]
      refine takeAt 8 (some 20) ?_ rfl rfl (by kernel_rfl) (by kernel_rfl) (by kernel_rfl) (fun _ _ _ h => h) (Or.inl ⟨by rfl, ?_⟩) hHeld ?_
      rotate_left
      · intro w hSw
        go_simp <;> with_reducible rfl
      try simp only [Act.put, List.setIfInBounds_toArray, List.set_cons_zero, List.set_cons_succ]
      refine takeAt 9 (some 21) ?_ rfl rfl (by kernel_rfl) (by kernel_rfl) (by kernel_rfl) (fun _ _ _ h => h) (Or.inl ⟨by rfl, ?_⟩) hHeld ?_
      rotate_left
      · intro w hSw
        go_simp <;> with_reducible rfl
      try simp only [Act.put, List.setIfInBounds_toArray, List.set_cons_zero, List.set_cons_succ]
      refine takeAt 10 (some 22) ?_ rfl rfl (by kernel_rfl) (by kernel_rfl) (by kernel_rfl) (fun _ _ _ h => h) (Or.inl ⟨by rfl, ?_⟩) hHeld ?_
      rotate_left
      · intro w hSw
        go_simp <;> with_reducible rfl
      try simp only [Act.put, List.setIfInBounds_toArray, List.set_cons_zero, List.set_cons_succ]
      refine takeAt 11 (some 23) ?_ rfl rfl (by kernel_rfl) (by kernel_rfl) (by kernel_rfl) (fun _ _ _ h => h) (Or.inl ⟨by rfl, ?_⟩) hHeld ?_
      rotate_left
      · intro w hSw
        go_simp <;> with_reducible rfl
      try simp only [Act.put, List.setIfInBounds_toArray, List.set_cons_zero, List.set_cons_succ]
      refine takeAt 12 (some 24) ?_ rfl rfl (by kernel_rfl) (by kernel_rfl) (by kernel_rfl) (fun _ _ _ h => h) (Or.inl ⟨by rfl, ?_⟩) hHeld ?_
      rotate_left
      · intro w hSw
        go_simp <;> with_reducible rfl
      try simp only [Act.put, List.setIfInBounds_toArray, List.set_cons_zero, List.set_cons_succ]
      refine takeAt 13 (some 25) ?_ rfl rfl (by kernel_rfl) (by kernel_rfl) (by kernel_rfl) (fun _ _ _ h => h) (Or.inl ⟨by rfl, ?_⟩) hHeld ?_
      rotate_left
      · intro w hSw
        go_simp <;> with_reducible rfl
      try simp only [Act.put, List.setIfInBounds_toArray, List.set_cons_zero, List.set_cons_succ]
      refine takeAt 14 (some 26) ?_ rfl rfl (by kernel_rfl) (by kernel_rfl) (by kernel_rfl) (fun _ _ _ h => h) (Or.inl ⟨by rfl, ?_⟩) hHeld ?_
      rotate_left
      · intro w hSw
        go_simp <;> with_reducible rfl
      try simp only [Act.put, List.setIfInBounds_toArray, List.set_cons_zero, List.set_cons_succ]
      refine takeAt 15 (some 27) ?_ rfl rfl (by kernel_rfl) (by kernel_rfl) (by kernel_rfl) (fun _ _ _ h => h) (Or.inl ⟨by rfl, ?_⟩) hHeld ?_
      rotate_left
      · intro w hSw
        go_simp <;> with_reducible rfl
      try simp only [Act.put, List.setIfInBounds_toArray, List.set_cons_zero, List.set_cons_succ]
      refine takeAt 16 (some 28) ?_ rfl rfl (by kernel_rfl) (by kernel_rfl) (by kernel_rfl) (fun _ _ _ h => h) (Or.inl ⟨by rfl, ?_⟩) hHeld ?_
      rotate_left
      · intro w hSw
        go_simp <;> with_reducible rfl
      try simp only [Act.put, List.setIfInBounds_toArray, List.set_cons_zero, List.set_cons_succ]
      have hb0 : g < wr.heap.size := World.block_lt_of_cell? _ _ c0
      refine wpAnyH_ready (rs := [17]) (by kernel_rfl) (by simp) ?_
      refine AllReadyH.cons rfl (fun K hK => ?_) AllReadyH.nil
      go_simp
      refine hK.out _ _ (⟨kp_cell (kp_alloc _ _) hHeld.1, kp_cell (kp_alloc _ _) hHeld.2.1, kp_cell (kp_alloc _ _) hHeld.2.2⟩) (fun hHeld => ?_)
      clear hK K
      try simp only [Act.put, List.setIfInBounds_toArray, List.set_cons_zero, List.set_cons_succ]
      have HZ : Hid _ := H4.out _ (kp_drew wr)
      refine wpAnyH_ready (rs := [18]) (by kernel_rfl) (by simp) ?_
      refine AllReadyH.cons rfl (fun K1 hK => ?_) AllReadyH.nil
      refine step_del (M := m + 1) rfl (.tmp 12) (.tmp 29) rfl ok rfl HZ.out.1 rfl HZ.out.2.1 HD.out.2 (by omega) HZ.out.2.2.1 ?_
      intro a3 e3 w5 q1 q2 q3
      have HQ : Hid _ := HF.out w5 (Below.trans HZ.out.2.2.2.2 q3) a3 e3 q1
      have hS5 : w5.cell? ⟨g, o + k * 3, none⟩ = some (.int .i64 d.at_) ∧ w5.cell? ⟨g, o + k * 3 + 1, none⟩ = some (.slice xa n1 xc) ∧ w5.cell? ⟨g, o + k * 3 + 2, none⟩ = some (.slice ya n2 yc) := by
        have hlt4 : g < (wr.drew.alloc (.cells #[.int .i64 d.at_, .slice ya n2 yc, .slice xa n1 xc] 35)).heap.size := by rw [alloc_size]; show g < wr.heap.size + 1; omega
        have hne : some g ≠ (Value.slice a' m c').ownBlock := fun e => HNE.out e
        refine ⟨?_, ?_, ?_⟩ <;> (rw [q2.cell_far _ hlt4 hne]; first | exact hHeld.1 | exact hHeld.2.1 | exact hHeld.2.2)
      clear q1 q2 q3
      change K1 (Act.put _ (some 30) (.slice a3 (m + 1) e3)) w5
      refine hK.out _ _ hS5 (fun hHeld => ?_)
      clear hK K1
      try simp only [Act.put, List.setIfInBounds_toArray, List.set_cons_zero, List.set_cons_succ]
      refine wpAnyH_ready (rs := [19]) (by kernel_rfl) (by simp) ?_
      refine AllReadyH.cons rfl (fun K hK => ?_) AllReadyH.nil
      go_simp
      refine hK.out _ _ (hHeld) (fun hHeld => ?_)
      clear hK K
      try simp only [Act.put, List.setIfInBounds_toArray, List.set_cons_zero, List.set_cons_succ]
      refine wpAnyH_done (by kernel_rfl) ?_ _
      refine NoPanic.normal ?_
      go_wp2_with fail
      go_roundw
      case rel => exact ⟨k, a3, e3, m + 1, by omega, by go_num, rfl, HQ.out⟩
      case measure => simp only [intOf]; omega
end Go.Proofs.Ytomiblpgjkmmcaa
/- A tree of states in memory. -/
namespace Go.Proofs.Ytomiblpgjkmmcaa
open Go.ChangeShapes Go.WideShapes Go.ChangeAt Go.RowKit Go.Maps Go.MapKept
set_option linter.unusedVariables false
set_option linter.unusedSimpArgs false
set_option maxRecDepth 100000
/-- Only blocks from B on of which T speaks have turned. -/
def Ff (T : Obj → Prop) (B : Nat) (w w' : World) : Prop := Fr (fun k => B ≤ k ∧ ∃ o, w.heap[k]? = some o ∧ T o) w w'
section
variable {T : Obj → Prop} {B : Nat} {w w1 w2 : World}
theorem Ff.keep (h : Ff T B w w1) {k : Nat} {o : Obj} (hk : w.heap[k]? = some o) (hT : ¬ T o) : w1.heap[k]? = some o := by
  rw [Fr.block h k (Array.getElem?_eq_some_iff.1 hk).1 ?_]
  · exact hk
  · rintro ⟨_, o', e, q⟩; rw [hk] at e; cases e; exact hT q
theorem Ff.refl (T : Obj → Prop) (B : Nat) (w : World) : Ff T B w w := Fr.refl _ _
theorem Ff.trans (h : Ff T B w w1) (h' : Ff T B w1 w2) : Ff T B w w2 := by
  refine Fr.trans' h h' fun k hk ⟨hB, o, ho, q⟩ => ⟨hB, ?_⟩
  obtain ⟨o0, h0⟩ : ∃ o0, w.heap[k]? = some o0 := ⟨_, Array.getElem?_eq_getElem hk⟩
  by_cases p : T o0
  · exact ⟨o0, h0, p⟩
  · have := h.keep h0 p
    rw [ho] at this; cases this; exact absurd q p
theorem Ff.kp (h : Kp w w1) : Ff T B w w1 := Fr.of_below h
theorem Ff.on {b : Nat} {o : Obj} (h : Fr (On b) w w1) (hb : B ≤ b) (ho : w.heap[b]? = some o) (hT : T o) : Ff T B w w1 := Fr.mono h fun k _ e => by unfold On at e; subst e; exact ⟨hb, o, ho, hT⟩
theorem Ff.below (h : Ff T B w w1) (hB : B ≤ w.heap.size) : Below B w w1 := Fr.below h hB fun k hk ⟨q, _⟩ => by omega
theorem Ff.size (h : Ff T B w w1) : w.heap.size ≤ w1.heap.size := Fr.size h
theorem Ff.less {B' : Nat} (h : Ff T B w w1) (hB : B' ≤ B) : Ff T B' w w1 := Fr.mono h fun k _ ⟨q, o, e, p⟩ => ⟨by omega, o, e, p⟩
theorem row_ff {B' size n : Nat} {e : TypeId} {v : Value} {xs : List Value} (hr : w.ownsRow B' e size v n xs) (h : Ff T B w w1) (hT : ∀ cur fr, ¬ T (.cells cur e fr)) : w1.ownsRow B' e size v n xs := by
  refine row_fr hr h fun j hj ⟨_, o, ho, q⟩ => ?_
  rcases hr.2 with ⟨z, _⟩ | ⟨b, cap, cur, z, hb, hg, _⟩
  · rw [z] at hj; cases hj
  · rw [z] at hj; simp only [Value.ownBlock, Option.some.injEq] at hj; subst hj
    rw [hg] at ho; cases ho; exact hT _ _ q
theorem Lc.ff {t : TypeId} {b : Nat} {l : List Value} (h : Lc t b l w) (k : Ff T B w w1) (hT : ∀ cur fr, ¬ T (.cells cur t fr)) : Lc t b l w1 := k.keep h (hT _ _)
theorem Dx.ff {C D : Nat} {v : Value} {ds : List Dl} (h : Dx (Row C) D v ds w) (k : Ff T B w w1) (h1 : ∀ cur fr, ¬ T (.cells cur 35 fr)) (h2 : ∀ cur fr, ¬ T (.cells cur 9 fr)) : Dx (Row C) D v ds w1 := by
  obtain ⟨cs, r1, r2⟩ := h
  exact ⟨cs, row_ff r1 k h1, r2.imp fun _ _ q => row_ff q k h2⟩
theorem Dx.zero {C D : Nat} {v : Value} {ds : List Dl} (h : Dx (Row C) D v ds w) : Dw 0 v ds w := by
  obtain ⟨cs, r1, r2⟩ := h
  exact ⟨cs, row_lift r1 fun _ _ => Nat.zero_le _, r2.imp fun _ _ q => row_lift q fun _ _ => Nat.zero_le _⟩
theorem Dx.lower {C D E : Nat} {v : Value} {ds : List Dl} (h : Dx (Row C) D v ds w) (h1 : E ≤ C) (h2 : E ≤ D) : Dw E v ds w := by
  obtain ⟨cs, r1, r2⟩ := h
  exact ⟨cs, row_lift r1 fun j hj => Nat.le_trans h2 (r1.lt j hj).1, r2.imp fun _ _ q => row_lift q fun j hj => Nat.le_trans h1 (q.lt j hj).1⟩
end
/-- What package undo turns of what was there. -/
def TP : Obj → Prop
  | .map _ _ => True
  | .cells _ e _ => e = 72 ∨ e = 69
  | _ => False
/-- A state. -/
structure St where
  seq : Int
  fr : Int
  on : Int
  by_ : List Dl
def look (L : List St) (x : Int) : Option St := L.find? fun s => decide (s.seq = x)
/-- The way on of one of them is another. -/
def setOn (L : List St) (x y : Int) : List St := L.map fun s => if s.seq = x then { s with on := y } else s
theorem look_cons (s : St) (L : List St) (x : Int) : look (s :: L) x = if s.seq = x then some s else look L x := by
  unfold look; rw [List.find?_cons]
  by_cases q : s.seq = x
  · rw [if_pos q, decide_eq_true q]
  · rw [if_neg q, decide_eq_false q]
theorem look_app (L M : List St) (x : Int) : look (L ++ M) x = (look L x).or (look M x) := by unfold look; rw [List.find?_append]
theorem look_seq {L : List St} {x : Int} {s : St} (h : look L x = some s) : s.seq = x := by
  have := List.find?_some h
  simpa using this
theorem look_mem {L : List St} {x : Int} {s : St} (h : look L x = some s) : s ∈ L := List.mem_of_find?_eq_some h
theorem look_on (L : List St) (x y z : Int) : look (setOn L x y) z = (look L z).map fun s => if z = x then { s with on := y } else s := by
  induction L with
  | nil => rfl
  | cons s L ih =>
    show look ((if s.seq = x then { s with on := y } else s) :: setOn L x y) z = _
    rw [look_cons, look_cons, ih]
    by_cases q : s.seq = z
    · have e : (if s.seq = x then { s with on := y } else s).seq = z := by split <;> exact q
      rw [if_pos e, if_pos q, Option.map_some]
      subst q; rfl
    · have e : (if s.seq = x then { s with on := y } else s).seq ≠ z := by split <;> exact q
      rw [if_neg e, if_neg q]
theorem setOn_len (L : List St) (x y : Int) : (setOn L x y).length = L.length := by simp [setOn]
theorem setOn_seq (L : List St) (x y : Int) : (setOn L x y).map St.seq = L.map St.seq := by
  simp only [setOn, List.map_map]
  refine List.map_congr_left fun s _ => ?_
  simp only [Function.comp]
  split <;> rfl
/-- States, the one that is, the next number, how many at most. -/
structure Tr where
  L : List St
  now : Int
  next : Int
  most : Int
/-- Pointers to the boxes. -/
def ptrs (L : List St) (q : Int → Nat) : Int → Option Value := fun x => (look L x).map fun _ => .pointer (some ⟨q x, 0, none⟩)
/-- A state's box. -/
def Bx (B C p : Nat) (s : St) (w : World) : Prop := B ≤ p ∧ ∃ v, Lc 69 p [.int .i64 s.fr, .int .i64 s.on, v] w ∧ Dw 0 v s.by_ w ∧ ∀ j, v.ownBlock = some j → j < C
/-- A tree, in memory: its box, its map, its states' boxes; where changes lie, C is beyond. -/
structure Tb (B C t b : Nat) (q : Int → Nat) (m : Tr) (w : World) : Prop where
  lt : B ≤ t
  lb : B ≤ b
  box : Lc 72 t [.map (some b), .int .i64 m.now, .int .i64 m.next, .int .i64 m.most] w
  map : Mp b (ptrs m.L q) w
  st : ∀ x s, look m.L x = some s → Bx B C (q x) s w
  inj : ∀ x y, look m.L x ≠ none → look m.L y ≠ none → q x = q y → x = y
def Tw (B C t : Nat) (m : Tr) (w : World) : Prop := ∃ b q, Tb B C t b q m w
section
variable {B C t b : Nat} {q : Int → Nat} {m : Tr} {w w1 : World}
theorem Bx.kp {p : Nat} {s : St} (h : Bx B C p s w) (k : Kp w w1) : Bx B C p s w1 := by
  obtain ⟨h1, v, h2, h3, h4⟩ := h
  exact ⟨h1, v, h2.kp k, h3.kp (okRow _ _) k, h4⟩
theorem Tb.kp (h : Tb B C t b q m w) (k : Kp w w1) : Tb B C t b q m w1 := ⟨h.lt, h.lb, h.box.kp k, h.map.kp k, fun x s hx => (h.st x s hx).kp k, h.inj⟩
theorem Tw.kp (h : Tw B C t m w) (k : Kp w w1) : Tw B C t m w1 := by obtain ⟨b, q, h⟩ := h; exact ⟨b, q, h.kp k⟩
theorem Bx.up {p C' : Nat} {s : St} (h : Bx B C p s w) (hC : C ≤ C') : Bx B C' p s w := by
  obtain ⟨h1, v, h2, h3, h4⟩ := h
  exact ⟨h1, v, h2, h3, fun j hj => Nat.lt_of_lt_of_le (h4 j hj) hC⟩
theorem Tw.up {C' : Nat} (h : Tw B C t m w) (hC : C ≤ C') : Tw B C' t m w := by
  obtain ⟨b, q, h⟩ := h
  exact ⟨b, q, h.lt, h.lb, h.box, h.map, fun x s hx => (h.st x s hx).up hC, h.inj⟩
theorem Bx.sized {p : Nat} {s : St} (h : Bx B C p s w) : Bx B w.heap.size p s w := by
  obtain ⟨h1, v, h2, ⟨cs, r1, r2⟩, h4⟩ := h
  exact ⟨h1, v, h2, ⟨cs, r1, r2⟩, fun j hj => (r1.lt j hj).2⟩
theorem Tw.sized (h : Tw B C t m w) : Tw B w.heap.size t m w := by
  obtain ⟨b, q, h⟩ := h
  exact ⟨b, q, h.lt, h.lb, h.box, h.map, fun x s hx => (h.st x s hx).sized, h.inj⟩
theorem Bx.fr {S : Nat → Prop} {p : Nat} {s : St} (h : Bx B C p s w) (k : Fr S w w1) (hp : ¬ S p) (hd : ∀ j cur fr, w.heap[j]? = some (.cells cur 35 fr) → ¬ S j) (hs : ∀ j cur fr, w.heap[j]? = some (.cells cur 9 fr) → ¬ S j) : Bx B C p s w1 := by
  obtain ⟨h1, v, h2, ⟨cs, r1, r2⟩, h4⟩ := h
  refine ⟨h1, v, h2.fr k hp, ⟨cs, row_fr r1 k fun j hj => ?_, r2.imp fun u ls r => row_fr r k fun j hj => ?_⟩, h4⟩
  · rcases r1.2 with ⟨z, _⟩ | ⟨g, cap, cur, z, hb, hg, _⟩
    · rw [z] at hj; cases hj
    · rw [z] at hj; simp only [Value.ownBlock, Option.some.injEq] at hj; subst hj; exact hd _ _ _ hg
  · rcases r.2 with ⟨z, _⟩ | ⟨g, cap, cur, z, hb, hg, _⟩
    · rw [z] at hj; cases hj
    · rw [z] at hj; simp only [Value.ownBlock, Option.some.injEq] at hj; subst hj; exact hs _ _ _ hg
theorem on_ne {p j : Nat} {o o' : Obj} (hp : w.heap[p]? = some o) (hj : w.heap[j]? = some o') (hne : o ≠ o') : ¬ On p j := fun e => by unfold On at e; subst e; rw [hp] at hj; cases hj; exact hne rfl
theorem cells_ne {a b : Array Value} {e e' : TypeId} {f f' : Nat × Nat} (h : e ≠ e') : Obj.cells a e f ≠ Obj.cells b e' f' := fun q => by cases q; exact h rfl
theorem Bx.on {p r : Nat} {s : St} {e : TypeId} {l : List Value} (h : Bx B C p s w) (k : Fr (On r) w w1) (hr : Lc e r l w) (hp : p ≠ r) (h1 : e ≠ 35) (h2 : e ≠ 9) : Bx B C p s w1 :=
  h.fr k hp (fun j cur fr hj => on_ne hr hj (cells_ne h1)) (fun j cur fr hj => on_ne hr hj (cells_ne h2))
theorem Bx.onMap {p r : Nat} {s : St} {es : Array MapEntry} {c : Nat} (h : Bx B C p s w) (k : Fr (On r) w w1) (hr : w.heap[r]? = some (.map es c)) : Bx B C p s w1 := by
  refine h.fr k ?_ (fun j cur fr hj => on_ne hr hj (by simp)) (fun j cur fr hj => on_ne hr hj (by simp))
  obtain ⟨_, v, h2, _⟩ := h
  exact on_ne hr h2 (by simp)
/-- Another one is the one that is. -/
theorem Tb.now (h : Tb B C t b q m w) (x : Int) : Tb B C t b q { m with now := x } (w.setCell ⟨t, 1, none⟩ (.int .i64 x)) ∧ Ff TP B w (w.setCell ⟨t, 1, none⟩ (.int .i64 x)) := by
  have f := fr_set t 1 (.int .i64 x) w
  have hne := h.map.ne h.box
  refine ⟨⟨h.lt, h.lb, h.box.set 1 _, h.map.fr f (Ne.symm hne), fun y s hy => (h.st y s hy).on f h.box ?_ (by decide) (by decide), h.inj⟩, Ff.on f h.lt h.box (.inl rfl)⟩
  obtain ⟨_, v, h2, _⟩ := h.st y s hy
  exact lc_ne h2 h.box (by decide)
theorem Tb.nxt (h : Tb B C t b q m w) (x : Int) : Tb B C t b q { m with next := x } (w.setCell ⟨t, 2, none⟩ (.int .i64 x)) ∧ Ff TP B w (w.setCell ⟨t, 2, none⟩ (.int .i64 x)) := by
  have f := fr_set t 2 (.int .i64 x) w
  have hne := h.map.ne h.box
  refine ⟨⟨h.lt, h.lb, h.box.set 2 _, h.map.fr f (Ne.symm hne), fun y s hy => (h.st y s hy).on f h.box ?_ (by decide) (by decide), h.inj⟩, Ff.on f h.lt h.box (.inl rfl)⟩
  obtain ⟨_, v, h2, _⟩ := h.st y s hy
  exact lc_ne h2 h.box (by decide)
theorem ptrs_on (L : List St) (x y : Int) (q : Int → Nat) : ptrs (setOn L x y) q = ptrs L q := by
  funext z; unfold ptrs; rw [look_on]; cases look L z <;> rfl
theorem look_on_ne (L : List St) (x y z : Int) : look (setOn L x y) z ≠ none ↔ look L z ≠ none := by rw [look_on]; cases look L z <;> simp
/-- A way on is laid. -/
theorem Tb.on (h : Tb B C t b q m w) {x : Int} (hx : look m.L x ≠ none) (y : Int) : Tb B C t b q { m with L := setOn m.L x y } (w.setCell ⟨q x, 1, none⟩ (.int .i64 y)) ∧ Ff TP B w (w.setCell ⟨q x, 1, none⟩ (.int .i64 y)) := by
  obtain ⟨s, hs⟩ := Option.ne_none_iff_exists'.1 hx
  obtain ⟨hp, v, h2, h3, h4⟩ := h.st x s hs
  have f := fr_set (q x) 1 (.int .i64 y) w
  have hne : b ≠ q x := Ne.symm (h.map.ne h2)
  have ht : t ≠ q x := lc_ne h.box h2 (by decide)
  refine ⟨⟨h.lt, h.lb, h.box.fr f ht, by show Mp b (ptrs (setOn m.L x y) q) _; rw [ptrs_on]; exact h.map.fr f hne, fun z s' hz => ?_, fun a c h1 h2 h3 => h.inj a c ((look_on_ne _ _ _ _).1 h1) ((look_on_ne _ _ _ _).1 h2) h3⟩, Ff.on f hp h2 (.inr rfl)⟩
  rw [look_on] at hz
  obtain ⟨s0, hs0, rfl⟩ := Option.map_eq_some_iff.1 hz
  by_cases e : z = x
  · subst e
    rw [if_pos rfl]
    rw [hs] at hs0; cases hs0
    refine ⟨hp, v, h2.set 1 _, ?_, h4⟩
    exact h3.ff (Ff.on (T := TP) f hp h2 (.inr rfl)) (fun _ _ q => by rcases q with q | q <;> exact absurd q (by decide)) (fun _ _ q => by rcases q with q | q <;> exact absurd q (by decide))
  · rw [if_neg e]
    exact (h.st z s0 hs0).on f h2 (fun e2 => e (h.inj z x (by rw [hs0]; simp) hx e2)) (by decide) (by decide)
/-- Changes that lie from C on have more behind them. -/
theorem Tw.app (h : Tw B C t m w) {v : Value} {n : Nat} {xs : List Value} (hr : w.ownsRow C 35 3 v n xs) (hg : w.grownBy w1 v.ownBlock) : Tw B C t m w1 := by
  obtain ⟨b, q, h⟩ := h
  have f := fr_grown hg
  have typ : ∀ k, some k = v.ownBlock → C ≤ k ∧ ∃ cur, w.heap[k]? = some (.cells cur 35 (0, 0)) := fun k e => by
    rcases hr.2 with ⟨z, _⟩ | ⟨g, cap, cur, z, hb, hg, _⟩
    · rw [z] at e; cases e
    · rw [z] at e; simp only [Value.ownBlock, Option.some.injEq] at e; subst e; exact ⟨hb, cur, hg⟩
  have lc : ∀ {T : TypeId} {p : Nat} {l : List Value}, Lc T p l w → T ≠ 35 → Lc T p l w1 := fun hl hT => hl.fr f fun e => by
    obtain ⟨_, cur, q⟩ := typ _ e
    unfold Lc at hl; rw [hl] at q; cases q; exact hT rfl
  refine ⟨b, q, h.lt, h.lb, lc h.box (by decide), h.map.fr f fun e => ?_, fun x s hx => ?_, h.inj⟩
  · obtain ⟨_, cur, q⟩ := typ _ e
    obtain ⟨es, c, hm, _⟩ := h.map
    rw [hm] at q; cases q
  · obtain ⟨h1, u, h2, ⟨cs, r1, r2⟩, h4⟩ := h.st x s hx
    refine ⟨h1, u, lc h2 (by decide), ⟨cs, row_fr r1 f fun j hj e => ?_, r2.imp fun u' ls r => row_fr r f fun j hj e => ?_⟩, h4⟩
    · have := h4 j hj; have := (typ j e).1; omega
    · obtain ⟨_, cur, q⟩ := typ j e
      rcases r.2 with ⟨z, _⟩ | ⟨g, cap, cur', z, hb, hg, _⟩
      · rw [z] at hj; cases hj
      · rw [z] at hj; simp only [Value.ownBlock, Option.some.injEq] at hj; subst hj
        rw [hg] at q; cases q
theorem zeroP (w : World) : (zeroValue 67).run Try.prog w = .ok (.pointer none) w := by kernel_rfl
/-- A state that is looked up. -/
theorem Tb.get (h : Tb B C t b q m w) {x : Int} (h0 : -9223372036854775808 ≤ x) (h1 : x < 9223372036854775808) {s : St} (hs : look m.L x = some s) (z : World) (k : Kp w z) :
    (Instr.lookup 70 (.map (some b)) (.int .i64 x) false).run Try.prog z = .ok (.pointer (some ⟨q x, 0, none⟩)) z := by
  have := (h.map.kp k).look h0 h1 Try.underlying70 (zeroP z) false
  unfold ptrs at this
  rw [hs] at this
  exact this
theorem Tb.getn (h : Tb B C t b q m w) {x : Int} (h0 : -9223372036854775808 ≤ x) (h1 : x < 9223372036854775808) (hs : look m.L x = none) (z : World) (k : Kp w z) :
    (Instr.lookup 70 (.map (some b)) (.int .i64 x) false).run Try.prog z = .ok (.pointer none) z := by
  have := (h.map.kp k).look h0 h1 Try.underlying70 (zeroP z) false
  unfold ptrs at this
  rw [hs] at this
  exact this
end
end Go.Proofs.Ytomiblpgjkmmcaa
/- undo.New, Now, up, down, Undo, Redo. -/
namespace Go.Proofs.Ytomiblpgjkmmcaa
open Go.ChangeShapes Go.WideShapes Go.ChangeAt Go.RowKit Go.Maps Go.MapKept
set_option linter.unusedVariables false
set_option linter.unusedSimpArgs false
set_option maxRecDepth 100000
/-- A number that an int has. -/
def Rg (x : Int) : Prop := -9223372036854775808 ≤ x ∧ x < 9223372036854775808
def first (most : Int) : Tr := ⟨[⟨0, -1, -1, []⟩], 0, 1, most⟩
section
variable {B C t : Nat} {m : Tr} {w : World}
set_option maxHeartbeats 4000000 in
theorem new_none {most : Int} (h : most < 1 ∨ 200 < most) (w : World) : Calls Try.prog 11 #[.int .i64 most] w fun e w' => e = .returned (.pointer none) ∧ w' = w := by
  by_cases q : most < 1
  · have d1 : decide (most < 1) = true := decide_eq_true q
    go_enter Try.func11, Try.ntmps11
    go_wp2
    go_ret
    exact ⟨rfl, rfl⟩
  · have d1 : decide (most < 1) = false := decide_eq_false q
    have d2 : decide (most > 200) = true := decide_eq_true (by omega)
    have d3 : decide (200 < most) = true := decide_eq_true (by omega)
    go_enter Try.func11, Try.ntmps11
    go_wp2
    go_ret
    exact ⟨rfl, rfl⟩
set_option maxHeartbeats 4000000 in
theorem new_any {most : Int} (h1 : 1 ≤ most) (h2 : most ≤ 200) (w : World) : Calls Try.prog 11 #[.int .i64 most] w fun e w' => ∃ t, e = .returned (.pointer (some ⟨t, 0, none⟩)) ∧ Tw w.heap.size w.heap.size t (first most) w' ∧ Kp w w' := by
  have d1 : decide (most < 1) = false := decide_eq_false (by omega)
  have d2 : decide (most > 200) = false := decide_eq_false (by omega)
  have d3 : decide (200 < most) = false := decide_eq_false (by omega)
  have hmm := @run_makeMap Try.prog
  obtain ⟨W0, hW0⟩ : ∃ W0, (w.alloc (.cells #[.int .i64 (-1), .int .i64 (-1), .slice none 0 0] 69)).alloc (.map #[] 0) = W0 := ⟨_, rfl⟩
  have k0 : Kp w W0 := by rw [← hW0]; exact kp_more (kp_alloc _ _) _
  have hz : W0.heap.size = w.heap.size + 1 + 1 := by rw [← hW0, alloc_size, alloc_size]
  have b0 : Lc 69 w.heap.size [.int .i64 (-1), .int .i64 (-1), .slice none 0 0] W0 := by rw [← hW0]; exact (Lc.new w _ _).kp (kp_alloc _ _)
  have m0 : Mp (w.heap.size + 1) (fun _ => none) W0 := ⟨#[], 0, by rw [← hW0]; simpa [alloc_size] using alloc_new (w.alloc (.cells #[.int .i64 (-1), .int .i64 (-1), .slice none 0 0] 69)) (.map #[] 0), stamped_empty 0, ⟨by simp, by simp⟩⟩
  obtain ⟨w', hr, hm, hf, hs⟩ := m0.store (x := 0) (by omega) (by omega) Try.underlying70 (.pointer (some ⟨w.heap.size, 0, none⟩))
  rw [← hW0] at hr
  have HP : Hid (∀ l, l = [.map (some (w.heap.size + 1)), .int .i64 0, .int .i64 1, .int .i64 most] → Tw w.heap.size w.heap.size (w.heap.size + 1 + 1) (first most) (w'.alloc (.cells l.toArray 72)) ∧ Kp w (w'.alloc (.cells l.toArray 72))) := by
    rintro l rfl
    have k1 : Kp w w' := k0.trans (hf.below k0.size fun k hk e => by unfold On at e; omega)
    refine ⟨⟨w.heap.size + 1, fun _ => w.heap.size, by omega, by omega, ?_, ?_, ?_, ?_⟩, kp_more k1 _⟩
    · have := Lc.new w' [.map (some (w.heap.size + 1)), .int .i64 0, .int .i64 1, .int .i64 most] 72
      rw [hs, hz] at this; exact this
    · refine Mp.kp ?_ (kp_alloc _ _)
      have e : ptrs (first most).L (fun _ => w.heap.size) = upd (fun _ => none) 0 (some (.pointer (some ⟨w.heap.size, 0, none⟩))) := by
        funext z; unfold ptrs first upd; rw [look_cons]
        by_cases q : z = 0
        · subst q; rfl
        · rw [if_neg (fun e => q e.symm), if_neg q]; rfl
      rw [e]; exact hm
    · intro x s hx
      refine Bx.kp (w := w') ⟨Nat.le_refl _, .slice none 0 0, ?_, ?_, fun j hj => by cases hj⟩ (kp_alloc _ _)
      · unfold first at hx; rw [look_cons] at hx
        split at hx
        · cases hx; exact b0.fr hf (by unfold On; omega)
        · cases hx
      · unfold first at hx; rw [look_cons] at hx
        split at hx
        · cases hx; exact Dx.nil _ _ _
        · cases hx
    · intro x y hx hy _
      have e : ∀ x, look (first most).L x ≠ none → x = 0 := fun x hx => by
        unfold first at hx; rw [look_cons] at hx
        split at hx
        · rename_i e; exact e.symm
        · exact absurd rfl hx
      rw [e x hx, e y hy]
  rw [hz] at hs
  clear k0 hz b0 m0 hm hf hW0
  go_enter Try.func11, Try.ntmps11
  go_wp2_with fail
  go_ret
  exact ⟨_, rfl, HP.out _ rfl⟩
set_option maxHeartbeats 4000000 in
theorem now_any (h : Tw B C t m w) : Calls Try.prog 14 #[.pointer (some ⟨t, 0, none⟩)] w fun e w' => e = .returned (.int .i64 m.now) ∧ w' = w := by
  obtain ⟨b, q, h⟩ := h
  have c1 := h.box.at (j := 1) rfl
  clear h
  go_enter Try.func14, Try.ntmps14
  go_wp2
  go_ret
  exact ⟨rfl, rfl⟩
theorem tp_delta (cur : Array Value) (fr : Nat × Nat) : ¬ TP (.cells cur 35 fr) := fun q => by rcases q with q | q <;> exact absurd q (by decide)
theorem tp_str (cur : Array Value) (fr : Nat × Nat) : ¬ TP (.cells cur 9 fr) := fun q => by rcases q with q | q <;> exact absurd q (by decide)
/-- What a call that goes somewhere leaves: changes of its own, the tree, the rest. -/
def Gone (B C t : Nat) (w : World) (v : Value) (ds : List Dl) (m : Tr) (w' : World) : Prop := Dw w.heap.size v ds w' ∧ Tw B C t m w' ∧ Ff TP B w w'
set_option maxHeartbeats 4000000 in
theorem up_any (h : Tw B C t m w) (hr : Rg m.now) {s : St} (hs : look m.L m.now = some s) {N : Nat} (hf : Few N s.by_) (hN : N ≤ 2513169434916) :
    Calls Try.prog 36 #[.pointer (some ⟨t, 0, none⟩)] w fun e w' => ∃ v, e = .returned v ∧ Gone B C t w v (turnD s.by_) { m with now := s.fr } w' := by
  obtain ⟨b, q, h⟩ := h
  have c0 := h.box.at (j := 0) rfl
  have c1 := h.box.at (j := 1) rfl
  have hlk := h.get hr.1 hr.2 hs
  have hl1 := fun k => hlk (w.drewN k) (kp_drewN _ k)
  obtain ⟨hp, v, h2, h3, _⟩ := h.st _ _ hs
  have p0 := h2.at (j := 0) rfl
  have p2 := h2.at (j := 2) rfl
  have f1 := h.box.fz 1
  have hne : q m.now ≠ t := lc_ne h2 h.box (by decide)
  have HT : Hid (∀ k, Calls Try.prog 27 #[v] ((w.drewN k).setCell ⟨t, 1, none⟩ (.int .i64 s.fr)) fun e w' => ∃ v', e = .returned v' ∧ Gone B C t w v' (turnD s.by_) { m with now := s.fr } w') := fun k => by
    obtain ⟨r1, r2⟩ := (h.kp (kp_drewN w k)).now s.fr
    have f0 : Ff TP B w ((w.drewN k).setCell ⟨t, 1, none⟩ (.int .i64 s.fr)) := (Ff.kp (kp_drewN _ _)).trans r2
    have d0 := h3.ff f0 tp_delta tp_str
    refine (turn_any (okRow 0 0) d0.dr hf hN).mono ?_
    rintro e w' ⟨v', rfl, q1, q2⟩
    exact ⟨v', rfl, q1.lower f0.size f0.size, ⟨b, q, r1.kp q2⟩, f0.trans (Ff.kp q2)⟩
  clear hlk h h2 h3 hp
  go_enter Try.func36, Try.ntmps36
  go_wp2_with fail
  go_quiet (fail)
  go_wp2_with fail
  refine Calls.mono (HT.out _) ?_
  rintro e w4 ⟨v', rfl, H4⟩
  have H5 : Hid _ := H4
  clear H4 HT
  go_wp2_with fail
  go_ret
  exact ⟨_, rfl, H5.out⟩
set_option maxHeartbeats 4000000 in
theorem down_any (h : Tw B C t m w) (hr : Rg m.now) {s s' : St} (hs : look m.L m.now = some s) (hr' : Rg s.on) (hs' : look m.L s.on = some s') {N : Nat} (hf : Few N s'.by_) (hN : N ≤ 2513169434916) :
    Calls Try.prog 39 #[.pointer (some ⟨t, 0, none⟩)] w fun e w' => ∃ v, e = .returned v ∧ Gone B C t w v s'.by_ { m with now := s.on } w' := by
  obtain ⟨b, q, h⟩ := h
  have c0 := h.box.at (j := 0) rfl
  have c1 := h.box.at (j := 1) rfl
  have f1 := h.box.fz 1
  have hlk := h.get hr.1 hr.2 hs
  have hl1 := hlk w (Below.refl _ _)
  have hl2 := hlk w.drew (kp_drew _)
  obtain ⟨hp, v, h2, h3, _⟩ := h.st _ _ hs
  have p1 := h2.at (j := 1) rfl
  obtain ⟨W1, hW1⟩ : ∃ W1, (w.setCell ⟨t, 1, none⟩ (.int .i64 s.on)).drew = W1 := ⟨_, rfl⟩
  obtain ⟨r1, r2⟩ := h.now s.on
  have r3 : Tb B C t b q { m with now := s.on } W1 := by rw [← hW1]; exact r1.kp (kp_drew _)
  have f0 : Ff TP B w W1 := by rw [← hW1]; exact r2.trans (Ff.kp (kp_drew _))
  obtain ⟨hp', v', h2', h3', _⟩ := r3.st _ _ hs'
  have z0 := r3.box.at (j := 0) rfl
  have z1 := r3.box.at (j := 1) rfl
  have z2 := h2'.at (j := 2) rfl
  have z3 := r3.get hr'.1 hr'.2 hs' W1 (Below.refl _ _)
  have z4 := r3.get hr'.1 hr'.2 hs' W1.drew (kp_drew _)
  have HT : Hid (∀ z, Kp W1 z → Calls Try.prog 31 #[v'] z fun e w' => ∃ v'', e = .returned v'' ∧ Gone B C t w v'' s'.by_ { m with now := s.on } w' ∧ Kp W1 w') := fun z k => by
    refine (copies_any (okRow 0 0) (h3'.kp (okRow 0 0) k).dr hf hN).mono ?_
    rintro e w' ⟨v'', rfl, q1, q2⟩
    have hz : w.heap.size ≤ z.heap.size := Nat.le_trans f0.size k.size
    exact ⟨v'', rfl, ⟨q1.lower hz hz, ⟨b, q, r3.kp (kp_trans k q2)⟩, f0.trans (Ff.kp (kp_trans k q2))⟩, kp_trans k q2⟩
  have HW : Hid (_ = W1) := hW1
  have HG : Hid (Tb B C t b q { m with now := s.on } W1 ∧ look m.L s.on = some s' ∧ Rg s.on) := ⟨r3, hs', hr'⟩
  clear hlk h h2 h3 h2' h3' hp hp' r1 r2 r3 f0 hW1
  go_enter Try.func39, Try.ntmps39
  go_wp2_with fail
  go_region
  rw [HW.out]
  go_wp2_with fail
  refine wp_region_noPanic ?_
  refine wp_region_held_drew (S := fun z => z.cell? ⟨t, 0, none⟩ = some (.map (some b)) ∧ z.cell? ⟨t, 1, none⟩ = some (.int .i64 s.on) ∧ z.cell? ⟨q s.on, 2, none⟩ = some v' ∧ (Instr.lookup 70 (.map (some b)) (.int .i64 s.on) false).run Try.prog z = .ok (.pointer (some ⟨q s.on, 0, none⟩)) z) (by kernel_rfl) (⟨z0, z1, z2, z4⟩) (fun hHeld => ?_)
  refine takeAt 0 (some 18) ?_ rfl rfl (by kernel_rfl) (by kernel_rfl) (by kernel_rfl) (fun _ _ _ h => h) (Or.inl ⟨by rfl, ?_⟩) hHeld ?_
  rotate_left
  · intro w hSw
    go_simp <;> with_reducible rfl
  try simp only [Act.put, List.setIfInBounds_toArray, List.set_cons_zero, List.set_cons_succ]
  refine takeAt 1 (some 19) ?_ rfl rfl (by kernel_rfl) (by kernel_rfl) (by kernel_rfl) (fun _ _ _ h => h) (Or.inl ⟨by rfl, ?_⟩) hHeld ?_
  rotate_left
  · intro w hSw
    go_simp <;> with_reducible rfl
  try simp only [Act.put, List.setIfInBounds_toArray, List.set_cons_zero, List.set_cons_succ]
  refine takeAt 2 (some 20) ?_ rfl rfl (by kernel_rfl) (by kernel_rfl) (by kernel_rfl) (fun _ _ _ h => h) (Or.inl ⟨by rfl, ?_⟩) hHeld ?_
  rotate_left
  · intro w hSw
    go_simp <;> with_reducible rfl
  try simp only [Act.put, List.setIfInBounds_toArray, List.set_cons_zero, List.set_cons_succ]
  refine takeAt 3 (some 21) ?_ rfl rfl (by kernel_rfl) (by kernel_rfl) (by kernel_rfl) (fun _ _ _ h => h) (Or.inl ⟨by rfl, ?_⟩) hHeld ?_
  rotate_left
  · intro w hSw
    go_simp <;> with_reducible rfl
  try simp only [Act.put, List.setIfInBounds_toArray, List.set_cons_zero, List.set_cons_succ]
  refine takeAt 4 (some 22) ?_ rfl rfl (by kernel_rfl) (by kernel_rfl) (by kernel_rfl) (fun _ _ _ h => h) (Or.inl ⟨by rfl, ?_⟩) hHeld ?_
  rotate_left
  · intro w hSw
    go_simp <;> with_reducible rfl
  try simp only [Act.put, List.setIfInBounds_toArray, List.set_cons_zero, List.set_cons_succ]
  refine takeAt 5 (some 23) ?_ rfl rfl (by kernel_rfl) (by kernel_rfl) (by kernel_rfl) (fun _ _ _ h => h) (Or.inl ⟨by rfl, ?_⟩) hHeld ?_
  rotate_left
  · intro w hSw
    go_simp <;> with_reducible rfl
  try simp only [Act.put, List.setIfInBounds_toArray, List.set_cons_zero, List.set_cons_succ]
  refine takeAt 6 (some 24) ?_ rfl rfl (by kernel_rfl) (by kernel_rfl) (by kernel_rfl) (fun _ _ _ h => h) (Or.inl ⟨by rfl, ?_⟩) hHeld ?_
  rotate_left
  · intro w hSw
    go_simp <;> with_reducible rfl
  try simp only [Act.put, List.setIfInBounds_toArray, List.set_cons_zero, List.set_cons_succ]
  refine takeAt 7 (some 25) ?_ rfl rfl (by kernel_rfl) (by kernel_rfl) (by kernel_rfl) (fun _ _ _ h => h) (Or.inl ⟨by rfl, ?_⟩) hHeld ?_
  rotate_left
  · intro w hSw
    go_simp <;> with_reducible rfl
  try simp only [Act.put, List.setIfInBounds_toArray, List.set_cons_zero, List.set_cons_succ]
  refine takeAt 8 (some 26) ?_ rfl rfl (by kernel_rfl) (by kernel_rfl) (by kernel_rfl) (fun _ _ _ h => h) (Or.inl ⟨by rfl, ?_⟩) hHeld ?_
  rotate_left
  · intro w hSw
    go_simp <;> with_reducible rfl
  try simp only [Act.put, List.setIfInBounds_toArray, List.set_cons_zero, List.set_cons_succ]
  refine takeAt 9 (some 27) ?_ rfl rfl (by kernel_rfl) (by kernel_rfl) (by kernel_rfl) (fun _ _ _ h => h) (Or.inl ⟨by rfl, ?_⟩) hHeld ?_
  rotate_left
  · intro w hSw
    go_simp <;> with_reducible rfl
  try simp only [Act.put, List.setIfInBounds_toArray, List.set_cons_zero, List.set_cons_succ]
  refine takeAt 10 (some 28) ?_ rfl rfl (by kernel_rfl) (by kernel_rfl) (by kernel_rfl) (fun _ _ _ h => h) (Or.inl ⟨by rfl, ?_⟩) hHeld ?_
  rotate_left
  · intro w hSw
    go_simp <;> with_reducible rfl
  try simp only [Act.put, List.setIfInBounds_toArray, List.set_cons_zero, List.set_cons_succ]
  refine takeAt 11 (some 29) ?_ rfl rfl (by kernel_rfl) (by kernel_rfl) (by kernel_rfl) (fun _ _ _ h => h) (Or.inl ⟨by rfl, ?_⟩) hHeld ?_
  rotate_left
  · intro w hSw
    go_simp <;> with_reducible rfl
  try simp only [Act.put, List.setIfInBounds_toArray, List.set_cons_zero, List.set_cons_succ]
  refine callAt 12 30 31 (vals := #[v']) (by kernel_rfl) rfl rfl rfl rfl (by simp [Act.eval]) Try.func31 (by kernel_rfl) (by kernel_rfl) ?_
  refine Calls.mono (HT.out _ (by first | exact Below.refl _ _ | exact kp_drew _)) ?_
  rintro e w4 ⟨v4, rfl, H4, k4⟩
  have H5 : Hid _ := H4
  clear H4
  refine ⟨_, rfl, ⟨kp_cell k4 z0, kp_cell k4 z1, kp_cell k4 z2, HG.out.1.get HG.out.2.2.1 HG.out.2.2.2 HG.out.2.1 _ k4⟩, fun hHeld => ?_⟩
  try simp only [Act.put, List.setIfInBounds_toArray, List.set_cons_zero, List.set_cons_succ]
  refine wpAnyH_ready (rs := [13]) (by kernel_rfl) (by simp) ?_
  refine AllReadyH.cons rfl (fun K hK => ?_) AllReadyH.nil
  go_simp
  refine hK.out _ _ (hHeld) (fun hHeld => ?_)
  clear hK K
  try simp only [Act.put, List.setIfInBounds_toArray, List.set_cons_zero, List.set_cons_succ]
  refine wpAnyH_done (by kernel_rfl) ?_ _
  refine NoPanic.normal ?_
  go_wp2_with fail
  go_ret
  exact ⟨_, rfl, H5.out⟩
set_option maxHeartbeats 4000000 in
theorem undo_end (h : Tw B C t m w) (hr : Rg m.now) {s : St} (hs : look m.L m.now = some s) (he : s.fr = -1) :
    Calls Try.prog 17 #[.pointer (some ⟨t, 0, none⟩)] w fun e w' => e = .returned (.tuple #[.slice none 0 0, .int .u16 121]) ∧ ∃ k, w' = w.drewN k := by
  obtain ⟨b, q, h⟩ := h
  have c0 := h.box.at (j := 0) rfl
  have c1 := h.box.at (j := 1) rfl
  have hlk := h.get hr.1 hr.2 hs
  have hl1 := fun k => hlk (w.drewN k) (kp_drewN _ k)
  obtain ⟨hp, v, h2, h3, _⟩ := h.st _ _ hs
  have p0 := h2.at (j := 0) rfl
  rw [he] at p0
  clear hlk h h2 h3 hp
  go_enter Try.func17, Try.ntmps17
  go_wp2_with fail
  go_quiet (fail)
  go_wp2_with fail
  go_ret2
  exact ⟨rfl, _, rfl⟩
set_option maxHeartbeats 4000000 in
theorem undo_any (h : Tw B C t m w) (hr : Rg m.now) {s : St} (hs : look m.L m.now = some s) (he : s.fr ≠ -1) {N : Nat} (hf : Few N s.by_) (hN : N ≤ 2513169434916) :
    Calls Try.prog 17 #[.pointer (some ⟨t, 0, none⟩)] w fun e w' => ∃ v, e = .returned (.tuple #[v, .int .u16 0]) ∧ Gone B C t w v (turnD s.by_) { m with now := s.fr } w' := by
  have HC : Hid (∀ k, Calls Try.prog 36 #[.pointer (some ⟨t, 0, none⟩)] (w.drewN k) fun e w' => ∃ v, e = .returned v ∧ Gone B C t w v (turnD s.by_) { m with now := s.fr } w') := fun k => by
    refine (up_any (h.kp (kp_drewN _ k)) hr hs hf hN).mono ?_
    rintro e w' ⟨v, rfl, g1, g2, g3⟩
    refine ⟨v, rfl, ?_, g2, (Ff.kp (kp_drewN _ _)).trans g3⟩
    rw [drewN_heap] at g1; exact g1
  obtain ⟨b, q, h⟩ := h
  have c0 := h.box.at (j := 0) rfl
  have c1 := h.box.at (j := 1) rfl
  have hlk := h.get hr.1 hr.2 hs
  have hl1 := fun k => hlk (w.drewN k) (kp_drewN _ k)
  obtain ⟨hp, v, h2, h3, _⟩ := h.st _ _ hs
  have p0 := h2.at (j := 0) rfl
  have d1 : (s.fr == -1) = false := by simpa using he
  clear hlk h h2 h3 hp
  go_enter Try.func17, Try.ntmps17
  go_wp2_with fail
  go_quiet (fail)
  go_wp2_with fail
  refine Calls.mono (HC.out _) ?_
  rintro e w4 ⟨v', rfl, H4⟩
  have H5 : Hid _ := H4
  clear H4 HC
  go_wp2_with fail
  go_ret2
  exact ⟨_, rfl, H5.out⟩
set_option maxHeartbeats 4000000 in
theorem redo_end (h : Tw B C t m w) (hr : Rg m.now) {s : St} (hs : look m.L m.now = some s) (he : s.on = -1) :
    Calls Try.prog 19 #[.pointer (some ⟨t, 0, none⟩)] w fun e w' => e = .returned (.tuple #[.slice none 0 0, .int .u16 121]) ∧ ∃ k, w' = w.drewN k := by
  obtain ⟨b, q, h⟩ := h
  have c0 := h.box.at (j := 0) rfl
  have c1 := h.box.at (j := 1) rfl
  have hlk := h.get hr.1 hr.2 hs
  have hl1 := fun k => hlk (w.drewN k) (kp_drewN _ k)
  obtain ⟨hp, v, h2, h3, _⟩ := h.st _ _ hs
  have p0 := h2.at (j := 1) rfl
  rw [he] at p0
  clear hlk h h2 h3 hp
  go_enter Try.func19, Try.ntmps19
  go_wp2_with fail
  go_quiet (fail)
  go_wp2_with fail
  go_ret2
  exact ⟨rfl, _, rfl⟩
set_option maxHeartbeats 4000000 in
theorem redo_any (h : Tw B C t m w) (hr : Rg m.now) {s : St} (hs : look m.L m.now = some s) (he : s.on ≠ -1) (hr' : Rg s.on) {s' : St} (hs' : look m.L s.on = some s') {N : Nat} (hf : Few N s'.by_) (hN : N ≤ 2513169434916) :
    Calls Try.prog 19 #[.pointer (some ⟨t, 0, none⟩)] w fun e w' => ∃ v, e = .returned (.tuple #[v, .int .u16 0]) ∧ Gone B C t w v (s'.by_) { m with now := s.on } w' := by
  have HC : Hid (∀ k, Calls Try.prog 39 #[.pointer (some ⟨t, 0, none⟩)] (w.drewN k) fun e w' => ∃ v, e = .returned v ∧ Gone B C t w v (s'.by_) { m with now := s.on } w') := fun k => by
    refine (down_any (h.kp (kp_drewN _ k)) hr hs hr' hs' hf hN).mono ?_
    rintro e w' ⟨v, rfl, g1, g2, g3⟩
    refine ⟨v, rfl, ?_, g2, (Ff.kp (kp_drewN _ _)).trans g3⟩
    rw [drewN_heap] at g1; exact g1
  obtain ⟨b, q, h⟩ := h
  have c0 := h.box.at (j := 0) rfl
  have c1 := h.box.at (j := 1) rfl
  have hlk := h.get hr.1 hr.2 hs
  have hl1 := fun k => hlk (w.drewN k) (kp_drewN _ k)
  obtain ⟨hp, v, h2, h3, _⟩ := h.st _ _ hs
  have p0 := h2.at (j := 1) rfl
  have d1 : (s.on == -1) = false := by simpa using he
  clear hlk h h2 h3 hp
  go_enter Try.func19, Try.ntmps19
  go_wp2_with fail
  go_quiet (fail)
  go_wp2_with fail
  refine Calls.mono (HC.out _) ?_
  rintro e w4 ⟨v', rfl, H4⟩
  have H5 : Hid _ := H4
  clear H4 HC
  go_wp2_with fail
  go_ret2
  exact ⟨_, rfl, H5.out⟩
end
end Go.Proofs.Ytomiblpgjkmmcaa
/- Ways in a tree of states: pure. -/
namespace Go.Proofs.Ytomiblpgjkmmcaa
open Go.ChangeShapes Go.WideShapes Go.ChangeAt Go.RowKit Go.Maps Go.MapKept
set_option linter.unusedVariables false
set_option linter.unusedSimpArgs false
/-- The way up from x to y: all states on it, y not among them. -/
inductive Up (L : List St) : Int → List Int → Int → Prop
  | nil (x : Int) : Up L x [] x
  | cons {x y : Int} {s : St} {l : List Int} : look L x = some s → s.fr ≠ -1 → Up L s.fr l y → Up L x (x :: l) y
/-- What is kept of states: numbers grow, all come from one. -/
structure Fam (L : List St) (next : Int) : Prop where
  fr : ∀ x s, look L x = some s → -1 ≤ s.fr ∧ s.fr < x ∧ 0 ≤ x ∧ x < next
  rt : ∃ r s, look L r = some s ∧ s.fr = -1 ∧ ∀ x, look L x ≠ none → ∃ l, Up L x l r
  on : ∀ x s, look L x = some s → s.on ≠ -1 → ∃ s', look L s.on = some s' ∧ s'.fr = x
  few : ∀ x s, look L x = some s → Few 2000 s.by_
section
variable {L : List St} {x y z top next : Int} {l l' : List Int} {s : St}
theorem Up.mono {M : List St} (h : Up L x l y) (hm : ∀ x s, look L x = some s → ∃ s', look M x = some s' ∧ s'.fr = s.fr) : Up M x l y := by
  induction h with
  | nil x => exact .nil x
  | cons h1 h2 h3 ih =>
    obtain ⟨s', q1, q2⟩ := hm _ _ h1
    exact .cons q1 (by rw [q2]; exact h2) (by rw [q2]; exact ih)
theorem Up.trans (h : Up L x l y) (h' : Up L y l' z) : Up L x (l ++ l') z := by
  induction h with
  | nil x => exact h'
  | cons h1 h2 h3 ih => exact .cons h1 h2 (ih h')
theorem Up.there (h : Up L x l y) : ∀ z ∈ l, look L z ≠ none := by
  induction h with
  | nil x => intro z hz; cases hz
  | cons h1 h2 h3 ih =>
    intro z hz
    rcases List.mem_cons.1 hz with rfl | hz
    · rw [h1]; simp
    · exact ih z hz
theorem Fam.up_le (F : Fam L next) (h : Up L x l y) : y ≤ x ∧ (∀ z ∈ l, y < z ∧ z ≤ x) ∧ (l ≠ [] → y < x) := by
  induction h with
  | nil x => exact ⟨by omega, by simp, by simp⟩
  | cons h1 h2 h3 ih =>
    have q := (F.fr _ _ h1).2.1
    refine ⟨by omega, fun z hz => ?_, fun _ => by omega⟩
    rcases List.mem_cons.1 hz with rfl | hz
    · exact ⟨by omega, by omega⟩
    · have := ih.2.1 z hz; exact ⟨this.1, by omega⟩
/-- Two ways from one state: one goes on where the other one ends. -/
theorem Up.split (h : Up L x l y) (h' : Up L x l' z) : (∃ k, Up L y k z ∧ l' = l ++ k) ∨ (∃ k, Up L z k y ∧ l = l' ++ k) := by
  induction h generalizing l' with
  | nil x => exact .inl ⟨l', h', rfl⟩
  | cons h1 h2 h3 ih =>
    cases h' with
    | nil => exact .inr ⟨_, .cons h1 h2 h3, rfl⟩
    | cons k1 k2 k3 =>
      rw [h1] at k1; cases k1
      rcases ih k3 with ⟨k, q1, rfl⟩ | ⟨k, q1, rfl⟩
      · exact .inl ⟨k, q1, rfl⟩
      · exact .inr ⟨k, q1, rfl⟩
theorem Fam.from_there (F : Fam L next) (h : look L x = some s) (hs : s.fr ≠ -1) : look L s.fr ≠ none := by
  obtain ⟨r, sr, h1, h2, h3⟩ := F.rt
  obtain ⟨l, hl⟩ := h3 x (by rw [h]; simp)
  cases hl with
  | nil => rw [h] at h1; cases h1; exact absurd h2 hs
  | cons k1 k2 k3 =>
    rw [h] at k1; cases k1
    cases k3 with
    | nil => rw [h1]; simp
    | cons j1 _ _ => rw [j1]; simp
theorem Fam.up_there (F : Fam L next) (h : Up L x l y) (hx : look L x ≠ none) : look L y ≠ none := by
  induction h with
  | nil x => exact hx
  | cons h1 h2 h3 ih => exact ih (F.from_there h1 h2)
/-- Where two ways up meet. -/
structure Meet (L : List St) (a b top : Int) (l1 l2 : List Int) : Prop where
  u1 : Up L a l1 top
  u2 : Up L b l2 top
  ap : ∀ x ∈ l1, ∀ l, ¬ Up L b l x
theorem Up.at_ (h : Up L x l y) (hz : z ∈ l) : ∃ k k', Up L x k z ∧ Up L z (z :: k') y ∧ l = k ++ z :: k' := by
  induction h with
  | nil x => cases hz
  | cons h1 h2 h3 ih =>
    rcases List.mem_cons.1 hz with rfl | hz
    · exact ⟨[], _, .nil _, .cons h1 h2 h3, rfl⟩
    · obtain ⟨k, k', q1, q2, rfl⟩ := ih hz
      exact ⟨_ :: k, k', .cons h1 h2 q1, q2, rfl⟩
theorem Fam.up_self (F : Fam L next) (h : Up L x l x) : l = [] := by
  cases l with
  | nil => rfl
  | cons a r => have := (F.up_le h).2.2 (by simp); omega
theorem Fam.up_one (F : Fam L next) (h : Up L x l y) (h' : Up L x l' y) : l = l' := by
  rcases h.split h' with ⟨k, q, rfl⟩ | ⟨k, q, rfl⟩ <;> rw [F.up_self q, List.append_nil]
/-- There is but one. -/
theorem Fam.meet_one {a b top' : Int} {l1 l2 l1' l2' : List Int} (F : Fam L next) (h : Meet L a b top l1 l2) (h' : Meet L a b top' l1' l2') : top = top' ∧ l1 = l1' ∧ l2 = l2' := by
  have e : top = top' := by
    rcases h.u1.split h'.u1 with ⟨k, q, e⟩ | ⟨k, q, e⟩
    · cases q with
      | nil => rfl
      | cons q1 q2 q3 => exact absurd h.u2 (h'.ap top (by rw [e]; simp) _)
    · cases q with
      | nil => rfl
      | cons q1 q2 q3 => exact absurd h'.u2 (h.ap top' (by rw [e]; simp) _)
  subst e
  exact ⟨rfl, F.up_one h.u1 h'.u1, F.up_one h.u2 h'.u2⟩
/-- While one looks for it: one has come up from a, the other one from b. -/
structure Mtg (L : List St) (a b u v : Int) (la lb : List Int) : Prop where
  u1 : Up L a la u
  u2 : Up L b lb v
  p1 : ∀ x ∈ la, ∀ l, ¬ Up L b l x
  p2 : ∀ x ∈ lb, ∀ l, ¬ Up L a l x
theorem Up.snoc (h : Up L x l y) (hy : look L y = some s) (hs : s.fr ≠ -1) : Up L x (l ++ [y]) s.fr := h.trans (.cons hy hs (.nil _))
theorem Fam.mtg_left {a b u v : Int} {la lb : List Int} (F : Fam L next) (h : Mtg L a b u v la lb) (hv : v < u) (ha : look L a ≠ none) (hb : look L b ≠ none) : ∃ s, look L u = some s ∧ s.fr ≠ -1 ∧ Mtg L a b s.fr v (la ++ [u]) lb := by
  obtain ⟨s, hs⟩ := Option.ne_none_iff_exists'.1 (F.up_there h.u1 ha)
  have hf : s.fr ≠ -1 := by
    intro e
    obtain ⟨r, sr, h1, h2, h3⟩ := F.rt
    obtain ⟨k, hk⟩ := h3 u (by rw [hs]; simp)
    cases hk with
    | nil => obtain ⟨k, hk⟩ := h3 v (F.up_there h.u2 hb); have := (F.up_le hk).1; omega
    | cons k1 k2 k3 => rw [hs] at k1; cases k1; exact k2 e
  refine ⟨s, hs, hf, h.u1.snoc hs hf, h.u2, fun x hx l hl => ?_, h.p2⟩
  rcases List.mem_append.1 hx with hx | hx
  · exact h.p1 x hx l hl
  · simp only [List.mem_singleton] at hx; subst hx
    rcases h.u2.split hl with ⟨k, q, _⟩ | ⟨k, q, e⟩
    · have := (F.up_le q).1; omega
    · cases q with
      | nil => omega
      | cons q1 q2 q3 => exact h.p2 x (by rw [e]; simp) _ h.u1
theorem Fam.mtg_right {a b u v : Int} {la lb : List Int} (F : Fam L next) (h : Mtg L a b u v la lb) (hv : u < v) (ha : look L a ≠ none) (hb : look L b ≠ none) : ∃ s, look L v = some s ∧ s.fr ≠ -1 ∧ Mtg L a b u s.fr la (lb ++ [v]) := by
  obtain ⟨s, h1, h2, h3⟩ := F.mtg_left (a := b) (b := a) ⟨h.u2, h.u1, h.p2, h.p1⟩ hv hb ha
  exact ⟨s, h1, h2, h3.u2, h3.u1, h3.p2, h3.p1⟩
theorem Mtg.start (a b : Int) : Mtg L a b a b [] [] := ⟨.nil _, .nil _, by simp, by simp⟩
theorem Mtg.done {a b u : Int} {la lb : List Int} (h : Mtg L a b u u la lb) : Meet L a b u la lb := ⟨h.u1, h.u2, h.p1⟩
/-- Ways on are laid, along a way up. -/
def led (L : List St) : List Int → Int → List St
  | [], _ => L
  | x :: l, top => led (setOn L (l.headD top) x) l top
/-- Along it the ways on lead down. -/
def Ways (L : List St) : List Int → Int → Prop
  | [], _ => True
  | x :: l, top => (∃ s, look L (l.headD top) = some s ∧ s.on = x) ∧ Ways L l top
theorem fr_on (L : List St) (a b : Int) : ∀ x s, look L x = some s → ∃ s', look (setOn L a b) x = some s' ∧ s'.fr = s.fr := fun x s h => by
  rw [look_on, h]
  by_cases q : x = a
  · exact ⟨_, rfl, by simp [q]⟩
  · exact ⟨_, rfl, by simp [q]⟩
theorem fr_on' (L : List St) (a b : Int) : ∀ x s, look (setOn L a b) x = some s → ∃ s', look L x = some s' ∧ s'.fr = s.fr ∧ s'.by_ = s.by_ ∧ (x ≠ a → s' = s) ∧ (x = a → s.on = b) := fun x s h => by
  rw [look_on] at h
  obtain ⟨s0, h1, rfl⟩ := Option.map_eq_some_iff.1 h
  by_cases q : x = a
  · rw [if_pos q]; exact ⟨s0, h1, rfl, rfl, fun e => absurd q e, fun _ => rfl⟩
  · rw [if_neg q]; exact ⟨s0, h1, rfl, rfl, fun _ => rfl, fun e => absurd e q⟩
theorem Up.on (h : Up L x l y) (a b : Int) : Up (setOn L a b) x l y := h.mono (fr_on L a b)
theorem Up.off {a b : Int} (h : Up (setOn L a b) x l y) : Up L x l y := h.mono fun x s q => by obtain ⟨s', q1, q2, _⟩ := fr_on' L a b x s q; exact ⟨s', q1, q2⟩
theorem Fam.setOn (F : Fam L next) {a b : Int} {s : St} (hb : look L b = some s) (hs : s.fr = a) : Fam (setOn L a b) next := by
  refine ⟨fun x s h => ?_, ?_, fun x s h ho => ?_, fun x s h => ?_⟩
  · obtain ⟨s', q1, q2, _⟩ := fr_on' L a b x s h
    rw [← q2]; exact F.fr x s' q1
  · obtain ⟨r, sr, h1, h2, h3⟩ := F.rt
    obtain ⟨s', q1, q2⟩ := fr_on L a b r sr h1
    refine ⟨r, s', q1, q2.trans h2, fun x hx => ?_⟩
    obtain ⟨l, hl⟩ := h3 x ((look_on_ne _ _ _ _).1 hx)
    exact ⟨l, hl.on a b⟩
  · obtain ⟨s', q1, q2, q3, q4, q5⟩ := fr_on' L a b x s h
    by_cases q : x = a
    · subst q
      obtain ⟨s2, p1, p2⟩ := fr_on L x b b _ hb
      rw [q5 rfl]
      exact ⟨s2, p1, p2.trans hs⟩
    · have e := q4 q
      subst e
      obtain ⟨s2, p1, p2⟩ := F.on x s' q1 ho
      obtain ⟨s3, r1, r2⟩ := fr_on L a b _ _ p1
      exact ⟨s3, r1, r2.trans p2⟩
  · obtain ⟨s', q1, q2, q3, _⟩ := fr_on' L a b x s h
    rw [← q3]; exact F.few x s' q1
theorem Up.head (h : Up L x l y) (hl : l ≠ []) : ∃ s r, look L x = some s ∧ l = x :: r ∧ r.headD y = s.fr ∧ Up L s.fr r y := by
  cases h with
  | nil => exact absurd rfl hl
  | cons h1 h2 h3 =>
    refine ⟨_, _, h1, rfl, ?_, h3⟩
    cases h3 with
    | nil => rfl
    | cons => rfl
theorem Fam.led (F : Fam L next) (h : Up L x l y) : Fam (led L l y) next ∧ (led L l y).map St.seq = L.map St.seq := by
  induction l generalizing x L with
  | nil => exact ⟨F, rfl⟩
  | cons a r ih =>
    obtain ⟨s, r', h1, e, h2, h3⟩ := h.head (by simp)
    cases e
    have F' := F.setOn (a := r.headD y) h1 h2.symm
    obtain ⟨q1, q2⟩ := ih F' (h3.on _ _)
    exact ⟨q1, q2.trans (setOn_seq _ _ _)⟩
theorem led_look (h : Up L x l y) (F : Fam L next) : ∀ z, (∀ w ∈ l.drop 1, z ≠ w) → z ≠ y → look (Go.Proofs.Ytomiblpgjkmmcaa.led L l y) z = look L z := by
  induction l generalizing x L with
  | nil => intro z _ _; rfl
  | cons a r ih =>
    obtain ⟨s, r', h1, e, h2, h3⟩ := h.head (by simp)
    cases e
    intro z hz hy
    have hz' : z ≠ r.headD y := by
      cases r with
      | nil => exact hy
      | cons b r2 => exact hz b (by simp)
    show look (Go.Proofs.Ytomiblpgjkmmcaa.led (Go.Proofs.Ytomiblpgjkmmcaa.setOn L (r.headD y) a) r y) z = _
    rw [ih (h3.on _ _) (F.setOn h1 h2.symm) z (fun w hw => hz w (by simp only [List.drop_succ_cons, List.drop_zero]; exact List.mem_of_mem_drop hw)) hy, look_on]
    cases look L z with
    | none => rfl
    | some s0 => rw [Option.map_some, if_neg hz']
theorem Fam.ways (F : Fam L next) (h : Up L x l y) (hx : look L x ≠ none) : Ways (Go.Proofs.Ytomiblpgjkmmcaa.led L l y) l y := by
  induction l generalizing x L with
  | nil => trivial
  | cons a r ih =>
    obtain ⟨s, r', h1, e, h2, h3⟩ := h.head (by simp)
    cases e
    have F' := F.setOn (a := r.headD y) h1 h2.symm
    have hfr : s.fr ≠ -1 := by cases h with | cons k1 k2 k3 => rw [h1] at k1; cases k1; exact k2
    have ht := F.from_there h1 hfr
    refine ⟨?_, ih F' (h3.on _ _) ((look_on_ne _ _ _ _).2 ht)⟩
    obtain ⟨s2, hs2⟩ := Option.ne_none_iff_exists'.1 ht
    rw [← h2] at hs2
    show ∃ s, look (Go.Proofs.Ytomiblpgjkmmcaa.led (Go.Proofs.Ytomiblpgjkmmcaa.setOn L (r.headD y) a) r y) (r.headD y) = some s ∧ s.on = a
    cases r with
    | nil =>
      refine ⟨{ s2 with on := a }, ?_, rfl⟩
      show look (Go.Proofs.Ytomiblpgjkmmcaa.setOn L y a) y = _
      rw [look_on]
      have : look L y = some s2 := hs2
      rw [this]; simp
    | cons b r2 =>
      have hle := F.up_le h3
      have hhead : b = s.fr := h2
      show ∃ s, look (Go.Proofs.Ytomiblpgjkmmcaa.led (Go.Proofs.Ytomiblpgjkmmcaa.setOn L b a) (b :: r2) y) b = some s ∧ s.on = a
      rw [led_look (h3.on b a) F' b ?_ ?_, look_on]
      · have : look L b = some s2 := hs2
        refine ⟨{ s2 with on := a }, ?_, rfl⟩
        rw [this]; simp
      · intro w hw
        have hw' : w ∈ r2 := by simpa using hw
        obtain ⟨s4, r4, j1, j2, j3, j4⟩ := h3.head (by simp)
        cases j2
        have k1 := (F.up_le j4).2.1 w hw'
        have k2 := (F.fr _ _ j1).2.1
        omega
      · have := hle.2.2 (by simp)
        rw [hhead]; omega
end
end Go.Proofs.Ytomiblpgjkmmcaa
/- meeting, lead. -/
namespace Go.Proofs.Ytomiblpgjkmmcaa
open Go.ChangeShapes Go.WideShapes Go.ChangeAt Go.RowKit Go.Maps Go.MapKept
set_option linter.unusedVariables false
set_option linter.unusedSimpArgs false
set_option maxRecDepth 100000
section
variable {B C t : Nat} {m : Tr} {w : World}
theorem Fam.rg {L : List St} {next x : Int} (F : Fam L next) (hn : next ≤ 1000000) (hx : look L x ≠ none) : 0 ≤ x ∧ x < 1000000 := by
  obtain ⟨s, hs⟩ := Option.ne_none_iff_exists'.1 hx
  have := F.fr x s hs
  omega
set_option maxHeartbeats 8000000 in
theorem meeting_any (h : Tw B C t m w) (F : Fam m.L m.next) (hn : m.next ≤ 1000000) {a b : Int} (ha : look m.L a ≠ none) (hb : look m.L b ≠ none) :
    Calls Try.prog 37 #[.pointer (some ⟨t, 0, none⟩), .int .i64 a, .int .i64 b] w fun e w' => ∃ top l1 l2, e = .returned (.int .i64 top) ∧ Meet m.L a b top l1 l2 ∧ ∃ k, w' = w.drewN k := by
  obtain ⟨c, q, h⟩ := h
  have c0 := h.box.at (j := 0) rfl
  have HH : Hid (Tb B C t c q m w ∧ Fam m.L m.next ∧ m.next ≤ 1000000 ∧ look m.L a ≠ none ∧ look m.L b ≠ none) := ⟨h, F, hn, ha, hb⟩
  clear h F hn ha hb
  go_enter Try.func37, Try.ntmps37
  go_wp2_with fail
  go_loopw [1, 2] (fun v1 v2 wr => ∃ (x y : Int) (k : Nat), v1 = .int .i64 x ∧ v2 = .int .i64 y ∧ wr = w.drewN k ∧ 0 ≤ x ∧ x < 1000000 ∧ 0 ≤ y ∧ y < 1000000 ∧ Hid (∃ u v la lb, Mtg m.L a b u v la lb ∧ ((x = u ∧ y = v) ∨ (x = v ∧ y = u)))) (fun v1 v2 _ => (intOf v1 + intOf v2).toNat)
  case atStart =>
    have q1 := HH.out.2.1.rg HH.out.2.2.1 HH.out.2.2.2.1
    have q2 := HH.out.2.1.rg HH.out.2.2.1 HH.out.2.2.2.2
    exact ⟨a, b, 0, rfl, rfl, rfl, q1.1, q1.2, q2.1, q2.2, a, b, [], [], Mtg.start a b, .inl ⟨rfl, rfl⟩⟩
  case round =>
    obtain ⟨x, y, k, rfl, rfl, rfl, x0, x1, y0, y1, HI⟩ := hrel
    by_cases e : x = y
    · subst e
      have d1 : (x != x) = false := by simp
      have HX : Hid (∃ l1 l2, Meet m.L a b x l1 l2) := by
        obtain ⟨u, v, la, lb, h1, h2⟩ := HI.out
        have e1 : u = x ∧ v = x := by omega
        obtain ⟨rfl, rfl⟩ := e1
        exact ⟨la, lb, h1.done⟩
      clear HI
      go_wp2_with fail
      go_ret
      obtain ⟨l1, l2, h1⟩ := HX.out
      exact ⟨x, l1, l2, rfl, h1, k, rfl⟩
    · have d1 : (x != y) = true := by simpa using e
      obtain ⟨s, hs, H2⟩ : ∃ s, look m.L (max x y) = some s ∧ Hid (0 ≤ s.fr ∧ s.fr < max x y ∧ ∃ u v la lb, Mtg m.L a b u v la lb ∧ ((min x y = u ∧ s.fr = v) ∨ (min x y = v ∧ s.fr = u))) := by
        obtain ⟨u, v, la, lb, h1, h2⟩ := HI.out
        rcases Int.lt_or_lt_of_ne (show u ≠ v by omega) with p | p
        · obtain ⟨s, q1, q2, q3⟩ := HH.out.2.1.mtg_right h1 p HH.out.2.2.2.1 HH.out.2.2.2.2
          have e1 : max x y = v := by omega
          have e2 : min x y = u := by omega
          have := HH.out.2.1.fr _ _ q1
          rw [e1, e2]
          exact ⟨s, q1, by omega, by omega, _, _, _, _, q3, .inl ⟨rfl, rfl⟩⟩
        · obtain ⟨s, q1, q2, q3⟩ := HH.out.2.1.mtg_left h1 p HH.out.2.2.2.1 HH.out.2.2.2.2
          have e1 : max x y = u := by omega
          have e2 : min x y = v := by omega
          have := HH.out.2.1.fr _ _ q1
          rw [e1, e2]
          exact ⟨s, q1, by omega, by omega, _, _, _, _, q3, .inr ⟨rfl, rfl⟩⟩
      have hk := fun k' => HH.out.1.get (by omega) (by omega) hs (w.drewN k') (kp_drewN _ k')
      obtain ⟨hp, v, h2, h3⟩ := HH.out.1.st _ _ hs
      have p0 := h2.at (j := 0) rfl
      clear h2 h3 hp HI
      go_wp2_with fail
      go_quiet (fail)
      go_wp2_with fail
      go_roundw
      case rel =>
        obtain ⟨z1, z2, z3⟩ := H2.out
        exact ⟨min x y, s.fr, k + nq, rfl, rfl, by first | exact drew2 _ _ _ | rfl, by omega, by omega, by omega, by omega, z3⟩
      case measure => have := H2.out; simp only [intOf]; omega
set_option maxHeartbeats 8000000 in
theorem lead_any (h : Tw B C t m w) (F : Fam m.L m.next) (hn : m.next ≤ 1000000) {seq top : Int} {l : List Int} (hu : Up m.L seq l top) (hs : look m.L seq ≠ none) :
    Calls Try.prog 38 #[.pointer (some ⟨t, 0, none⟩), .int .i64 top, .int .i64 seq] w fun e w' => e = .returned (.tuple #[]) ∧ Tw B C t { m with L := led m.L l top } w' ∧ Ff TP B w w' := by
  have H0 : Hid (Tw B C t m w ∧ Fam m.L m.next ∧ Up m.L seq l top ∧ look m.L seq ≠ none) := ⟨h, F, hu, hs⟩
  obtain ⟨nx, hnx⟩ : ∃ nx, m.next = nx := ⟨_, rfl⟩
  have HN : Hid (m.next = nx ∧ nx ≤ 1000000) := ⟨hnx, by omega⟩
  clear h F hu hs hnx hn
  go_enter Try.func38, Try.ntmps38
  go_wp2_with fail
  go_loopw [2] (fun v2 wr => ∃ x : Int, v2 = .int .i64 x ∧ Hid (0 ≤ x ∧ ∃ M l', Tw B C t { m with L := M } wr ∧ Fam M nx ∧ Up M x l' top ∧ look M x ≠ none ∧ led M l' top = led m.L l top ∧ Ff TP B w wr)) (fun v2 _ => (intOf v2).toNat)
  case atStart =>
    obtain ⟨h1, h2, h3, h4⟩ := H0.out
    have := h2.rg (by have := HN.out; omega) h4
    exact ⟨seq, rfl, this.1, m.L, l, h1, by rw [← HN.out.1]; exact h2, h3, h4, rfl, Ff.refl _ _ _⟩
  case round =>
    obtain ⟨x, rfl, HI⟩ := hrel
    clear H0
    by_cases e : x = top
    · subst e
      have d1 : (x != x) = false := by simp
      have HX : Hid (Tw B C t { m with L := led m.L l x } wr ∧ Ff TP B w wr) := by
        obtain ⟨h0, M, l', h1, h2, h3, h4, h5, h6⟩ := HI.out
        have := h2.up_self h3
        subst this
        rw [← h5]; exact ⟨h1, h6⟩
      clear HI
      go_wp2_with fail
      first | go_end0 | refine bodyPost_ret (results_none rfl _ _ _) rfl ?_
      exact ⟨rfl, HX.out⟩
    · have d1 : (x != top) = true := by simpa using e
      obtain ⟨h0, M, l', ⟨b, q, h1⟩, h2, h3, h4, h5, h6⟩ := HI.out
      obtain ⟨s, r, k1, rfl, k2, k3⟩ := h3.head (by rintro rfl; cases h3; exact e rfl)
      have hfr : s.fr ≠ -1 := by cases h3 with | cons a1 a2 a3 => rw [k1] at a1; cases a1; exact a2
      have ht := h2.from_there k1 hfr
      have q1 := h2.rg HN.out.2 h4
      have q2 := h2.rg HN.out.2 ht
      have q3 := h2.fr _ _ k1
      have c0 := h1.box.at (j := 0) rfl
      have hk1 := h1.get (by omega) (by omega) k1 wr (Below.refl _ _)
      obtain ⟨s2, hs2⟩ := Option.ne_none_iff_exists'.1 ht
      have hk2 := h1.get (by omega) (by omega) hs2 wr (Below.refl _ _)
      obtain ⟨_, v, p1, _⟩ := h1.st _ _ k1
      have p0 := p1.at (j := 0) rfl
      obtain ⟨_, v2, p2, _⟩ := h1.st _ _ hs2
      have f1 := p2.fz 1
      have p3 := p2.at (j := 1) rfl
      obtain ⟨r1, r2⟩ := h1.on ht x
      have HX : Hid (0 ≤ s.fr ∧ s.fr < x ∧ ∃ M l', Tw B C t { m with L := M } (wr.setCell ⟨q s.fr, 1, none⟩ (.int .i64 x)) ∧ Fam M nx ∧ Up M s.fr l' top ∧ look M s.fr ≠ none ∧ led M l' top = led m.L l top ∧ Ff TP B w (wr.setCell ⟨q s.fr, 1, none⟩ (.int .i64 x))) := by
        refine ⟨q2.1, q3.2.1, setOn M s.fr x, r, ⟨b, q, r1⟩, h2.setOn k1 rfl, k3.on _ _, (look_on_ne _ _ _ _).2 ht, ?_, h6.trans r2⟩
        rw [← h5, ← k2]; rfl
      clear HI h1 h2 h3 h4 h5 h6 k1 k2 k3 hs2 p1 p2 r1 r2 ht
      go_wp2_with fail
      go_roundw
      case rel => exact ⟨s.fr, rfl, HX.out.1, HX.out.2.2⟩
      case measure => have := HX.out; simp only [intOf]; omega
end
end Go.Proofs.Ytomiblpgjkmmcaa
/- Go. -/
namespace Go.Proofs.Ytomiblpgjkmmcaa
open Go.ChangeShapes Go.WideShapes Go.ChangeAt Go.RowKit Go.Maps Go.MapKept
set_option linter.unusedVariables false
set_option linter.unusedSimpArgs false
set_option maxRecDepth 100000
/-- By which changes a state was made. -/
def byOf (L : List St) (x : Int) : List Dl := ((look L x).map St.by_).getD []
/-- The changes on a way up, on a way down. -/
def upsD (L : List St) (l : List Int) : List Dl := l.flatMap fun x => turnD (byOf L x)
def dnD (L : List St) (l : List Int) : List Dl := l.reverse.flatMap fun x => byOf L x
section
variable {L : List St} {x y z top next : Int} {l a b : List Int} {s : St}
theorem byOf_some (h : look L x = some s) : byOf L x = s.by_ := by unfold byOf; rw [h]; rfl
theorem upsD_app (a b : List Int) : upsD L (a ++ b) = upsD L a ++ upsD L b := by simp [upsD]
theorem upsD_one (x : Int) : upsD L [x] = turnD (byOf L x) := by simp [upsD]
theorem dnD_cons (x : Int) (l : List Int) : dnD L (x :: l) = dnD L l ++ byOf L x := by simp [dnD]
theorem Fam.few_by (F : Fam L next) (x : Int) : Few 2000 (byOf L x) := by
  unfold byOf
  cases h : look L x with
  | none => exact ⟨by simp, by simp⟩
  | some s => exact F.few x s h
theorem Fam.ups_len (F : Fam L next) (l : List Int) : (upsD L l).length ≤ 2000 * l.length := by
  induction l with
  | nil => simp [upsD]
  | cons a r ih =>
    have e : upsD L (a :: r) = turnD (byOf L a) ++ upsD L r := by simp [upsD]
    rw [e, List.length_append, turnD_len, List.length_cons]
    have := (F.few_by a).1
    omega
theorem Fam.dn_len (F : Fam L next) (l : List Int) : (dnD L l).length ≤ 2000 * l.length := by
  induction l with
  | nil => simp [dnD]
  | cons a r ih =>
    rw [dnD_cons, List.length_append, List.length_cons]
    have := (F.few_by a).1
    omega
theorem Fam.up_len (F : Fam L next) (h : Up L x l y) : (l.length : Int) ≤ x - y := by
  induction h with
  | nil x => simp
  | cons h1 h2 h3 ih => have := (F.fr _ _ h1).2.1; simp only [List.length_cons]; omega
theorem Up.cut (h : Up L x (a ++ b) y) : Up L x a (b.headD y) ∧ Up L (b.headD y) b y := by
  induction a generalizing x with
  | nil =>
    cases b with
    | nil => cases h; exact ⟨.nil _, .nil _⟩
    | cons c r =>
      obtain ⟨s, r', k1, e, k2, k3⟩ := h.head (by simp)
      cases e
      exact ⟨.nil _, h⟩
  | cons c a ih =>
    obtain ⟨s, r', k1, e, k2, k3⟩ := h.head (by simp)
    cases e
    obtain ⟨q1, q2⟩ := ih k3
    refine ⟨.cons k1 ?_ q1, q2⟩
    cases h with
    | cons j1 j2 j3 => rw [k1] at j1; cases j1; exact j2
theorem Ways.tail (h : Ways L (a ++ b) top) : Ways L b top := by
  induction a with
  | nil => exact h
  | cons c a ih => exact ih h.2
theorem by_on (L : List St) (a b x : Int) : byOf (setOn L a b) x = byOf L x := by
  unfold byOf; rw [look_on]
  cases look L x with
  | none => rfl
  | some s => simp only [Option.map_some, Option.getD_some]; split <;> rfl
theorem by_led : ∀ (l : List Int) (L : List St) (x : Int), byOf (led L l y) x = byOf L x
  | [], _, _ => rfl
  | c :: r, L, x => by show byOf (led (setOn L (r.headD y) c) r y) x = _; rw [by_led r, by_on]
theorem ne_led : ∀ (l : List Int) (L : List St) (x : Int), look (led L l y) x ≠ none ↔ look L x ≠ none
  | [], _, _ => Iff.rfl
  | c :: r, L, x => by show look (led (setOn L (r.headD y) c) r y) x ≠ none ↔ _; rw [ne_led r, look_on_ne]
theorem fr_led : ∀ (l : List Int) (L : List St) (x : Int) (s : St), look L x = some s → ∃ s', look (led L l y) x = some s' ∧ s'.fr = s.fr
  | [], _, _, s, h => ⟨s, h, rfl⟩
  | c :: r, L, x, s, h => by
    obtain ⟨s1, q1, q2⟩ := fr_on L (r.headD y) c x s h
    obtain ⟨s2, q3, q4⟩ := fr_led r _ x s1 q1
    exact ⟨s2, q3, q4.trans q2⟩
theorem Up.led (h : Up L x l y) (l' : List Int) (y' : Int) : Up (Go.Proofs.Ytomiblpgjkmmcaa.led L l' y') x l y := h.mono (fr_led l' L)
end
theorem Ff.new {T : Obj → Prop} {B : Nat} {w w1 w2 : World} (h : Ff T B w w1) (k : Below w.heap.size w1 w2) : Ff T B w w2 :=
  ⟨k.os.trans (Fr.os h), k.tape.trans (Fr.tape h), k.output.trans (Fr.output h), Nat.le_trans (Fr.size h) k.size, fun j hj hn => (k.block j hj).trans (Fr.block h j hj hn)⟩
/-- The number of the one that is, as it lies there. -/
def nowOf (t : Nat) (w : World) : Nat := match w.cell? ⟨t, 1, none⟩ with
  | some v => (intOf v).toNat
  | none => 0
theorem nowOf_eq {B C t : Nat} {m : Tr} {w : World} (h : Tw B C t m w) : nowOf t w = m.now.toNat := by
  obtain ⟨b, q, h⟩ := h
  unfold nowOf
  rw [h.box.at (j := 1) rfl]
  rfl
theorem rg_of {x : Int} (h : 0 ≤ x ∧ x < 1000000) : Rg x := ⟨by omega, by omega⟩
theorem eqlP (ad : Addr) (w : World) : Sem.run Try.prog (binOp BinOp.eql 67 (.pointer (some ad)) (.pointer none)) w = .ok (.bool false) w := by kernel_rfl
section
variable {B C t : Nat} {m : Tr} {w : World}
set_option maxHeartbeats 4000000 in
theorem go_none (h : Tw B C t m w) {seq : Int} (hr : Rg seq) (hs : look m.L seq = none) :
    Calls Try.prog 18 #[.pointer (some ⟨t, 0, none⟩), .int .i64 seq] w fun e w' => e = .returned (.tuple #[.slice none 0 0, .int .u16 120]) ∧ w' = w := by
  obtain ⟨b, q, h⟩ := h
  have c0 := h.box.at (j := 0) rfl
  have hlk := h.getn hr.1 hr.2 hs w (Below.refl _ _)
  clear h
  go_enter Try.func18, Try.ntmps18
  go_wp2
  go_ret2
  exact ⟨rfl, rfl⟩
/-- Where a round of the way up stands. -/
def GoU (B C t : Nat) (w : World) (m : Tr) (top : Int) (l1 : List Int) (v : Value) (wr : World) : Prop :=
  ∃ y la lr, l1 = la ++ lr ∧ Up m.L y lr top ∧ look m.L y ≠ none ∧ Dw w.heap.size v (upsD m.L la) wr ∧ Tw B C t { m with now := y } wr ∧ Ff TP B w wr
/-- Where a round of the way down stands. -/
def GoD (B C t : Nat) (w : World) (m : Tr) (top : Int) (l2 : List Int) (us : List Dl) (v : Value) (wr : World) : Prop :=
  ∃ lc lr, l2 = lc ++ lr ∧ Dw w.heap.size v (us ++ dnD m.L lr) wr ∧ Tw B C t { m with L := led m.L l2 top, now := lr.headD top } wr ∧ Ff TP B w wr
/-- What Go leaves. -/
def Went (B C t : Nat) (w : World) (v : Value) (m : Tr) (seq : Int) (w' : World) : Prop :=
  ∃ top l1 l2, Meet m.L m.now seq top l1 l2 ∧ Gone B C t w v (upsD m.L l1 ++ dnD m.L l2) { m with L := led m.L l2 top, now := seq } w'
set_option maxHeartbeats 16000000 in
theorem go_any (h : Tw B C t m w) (hC : C ≤ w.heap.size) (F : Fam m.L m.next) (hn : m.next ≤ 10000) {seq : Int} (hw : look m.L m.now ≠ none) (hs : look m.L seq ≠ none) :
    Calls Try.prog 18 #[.pointer (some ⟨t, 0, none⟩), .int .i64 seq] w fun e w' => ∃ v, e = .returned (.tuple #[v, .int .u16 0]) ∧ Went B C t w v m seq w' := by
  have HM : Hid (∀ k, Calls Try.prog 37 #[.pointer (some ⟨t, 0, none⟩), .int .i64 m.now, .int .i64 seq] (w.drewN k) fun e w' => ∃ top l1 l2, e = .returned (.int .i64 top) ∧ Meet m.L m.now seq top l1 l2 ∧ ∃ k, w' = w.drewN k) := fun k => by
    refine (meeting_any (h.kp (kp_drewN w k)) F (by omega) hw hs).mono ?_
    rintro e w' ⟨top, l1, l2, rfl, q1, k', rfl⟩
    exact ⟨top, l1, l2, rfl, q1, k + k', by rw [drew2]⟩
  have HH : Hid (Tw B C t m w ∧ C ≤ w.heap.size ∧ Fam m.L m.next ∧ m.next ≤ 10000 ∧ look m.L m.now ≠ none ∧ look m.L seq ≠ none) := ⟨h, hC, F, hn, hw, hs⟩
  obtain ⟨b, q, h⟩ := h
  have c0 := h.box.at (j := 0) rfl
  have c1 := h.box.at (j := 1) rfl
  obtain ⟨s0, hs0⟩ := Option.ne_none_iff_exists'.1 hs
  have hsr := F.rg (by omega) hs
  have hlk := h.get (by omega) (by omega) hs0 w (Below.refl _ _)
  have he := eqlP ⟨q seq, 0, none⟩
  clear h hs0 hs hw F hC hn
  go_enter Try.func18, Try.ntmps18
  go_wp2_with fail
  refine Calls.mono (HM.out 0) ?_
  rintro e w1 ⟨top, l1, l2, rfl, hm, k1, rfl⟩
  have HT : Hid (Meet m.L m.now seq top l1 l2) := hm
  clear hm HM
  go_wp2_with fail
  go_loopw [6] (fun v6 wr => ∃ (a' : Option Addr) (n c' : Nat), v6 = .slice a' n c' ∧ Hid (GoU B C t w m top l1 (.slice a' n c') wr)) (fun _ wr => nowOf t wr)
  case atStart =>
    exact ⟨none, 0, 0, rfl, m.now, [], l1, rfl, HT.out.u1, HH.out.2.2.2.2.1, Dx.nil _ _ _, HH.out.1.kp (kp_drewN _ _), Ff.kp (kp_drewN _ _)⟩
  case round =>
    obtain ⟨a', n, c', rfl, HI⟩ := hrel
    clear c0 c1 hlk he
    obtain ⟨y, la, lr, e1, u1, hy, d1, t1, f1⟩ := HI.out
    have c1 : wr.cell? ⟨t, 1, none⟩ = some (.int .i64 y) := by obtain ⟨b, q, h⟩ := t1; exact h.box.at (j := 1) rfl
    by_cases e : y = top
    · subst e
      have g1 : (y != y) = false := by simp
      have hl0 := HH.out.2.2.1.up_self u1
      subst hl0
      have H1 : Hid (Dw w.heap.size (.slice a' n c') (upsD m.L l1) wr ∧ Tw B C t { m with now := y } wr ∧ Ff TP B w wr) := ⟨by rw [e1, List.append_nil]; exact d1, t1, f1⟩
      have HL : Hid _ := lead_any t1 HH.out.2.2.1 (by have := HH.out.2.2.2.1; show m.next ≤ _; omega) HT.out.u2 HH.out.2.2.2.2.2
      clear HI d1 t1 f1 e1 u1 hy
      go_wp2_with fail
      refine Calls.mono HL.out ?_
      rintro e w2 ⟨rfl, t2, f2⟩
      have H2 : Hid (Dw w.heap.size (.slice a' n c') (upsD m.L l1) w2 ∧ Tw B C t { m with L := led m.L l2 y, now := y } w2 ∧ Ff TP B w w2) := ⟨H1.out.1.ff f2 tp_delta tp_str, t2, H1.out.2.2.trans f2⟩
      clear HL H1 t2 f2 c1 g1
      go_wp2_with fail
      go_loopw [6] (fun v6 wr => ∃ (a' : Option Addr) (n c' : Nat), v6 = .slice a' n c' ∧ Hid (GoD B C t w m y l2 (upsD m.L l1) (.slice a' n c') wr)) (fun _ wr => seq.toNat - nowOf t wr)
      case atStart => exact ⟨a', n, c', rfl, l2, [], by simp, by simpa [dnD] using H2.out.1, H2.out.2.1, H2.out.2.2⟩
      case round =>
        clear H2
        obtain ⟨a2, n2, c2, rfl, HI⟩ := hrel
        obtain ⟨lc, lr, e1, d1, t1, f1⟩ := HI.out
        have c1 : wr.cell? ⟨t, 1, none⟩ = some (.int .i64 (lr.headD y)) := by obtain ⟨b, q, h⟩ := t1; exact h.box.at (j := 1) rfl
        have hu := HT.out.u2
        rw [e1] at hu
        obtain ⟨hu1, hu2⟩ := hu.cut
        by_cases e : lr.headD y = seq
        · have g1 : (seq != seq) = false := by simp
          rw [e] at hu1 c1
          have hl0 := HH.out.2.2.1.up_self hu1
          subst hl0
          have e2 : l2 = lr := e1
          have H3 : Hid (Gone B C t w (.slice a2 n2 c2) (upsD m.L l1 ++ dnD m.L l2) { m with L := led m.L l2 y, now := seq } wr) := ⟨by rw [e2]; exact d1, by rw [← e]; exact t1, f1⟩
          clear HI d1 t1 f1 hu1 hu2 hu e2 e1
          go_wp2_with fail
          go_ret2
          exact ⟨_, rfl, y, l1, l2, HT.out, H3.out⟩
        · obtain ⟨p, hp⟩ : ∃ p, lr.headD y = p := ⟨_, rfl⟩
          have g1 : (p != seq) = true := by rw [← hp]; simpa using e
          rw [hp] at c1
          obtain ⟨lc', z, rfl⟩ : ∃ lc' z, lc = lc' ++ [z] := by
            rcases List.eq_nil_or_concat lc with rfl | ⟨l0, z, h0⟩
            · exfalso
              cases hu1
              exact e rfl
            · exact ⟨l0, z, by rw [h0, List.concat_eq_append]⟩
          have F2 := HH.out.2.2.1.led HT.out.u2
          have hw2 := HH.out.2.2.1.ways HT.out.u2 HH.out.2.2.2.2.2
          rw [e1, List.append_assoc, List.singleton_append] at hw2
          obtain ⟨⟨s, hs, hon⟩, _⟩ := hw2.tail
          rw [← List.singleton_append, ← List.append_assoc, ← e1] at hs
          have hnm := HH.out.2.2.2.1
          have hz : look (led m.L l2 y) z ≠ none := (ne_led _ _ _).2 (hu.there z (by simp))
          obtain ⟨s', hs'⟩ := Option.ne_none_iff_exists'.1 hz
          have r1 := F2.1.rg (by omega) (x := lr.headD y) (by rw [hs]; simp)
          have r2 := F2.1.rg (by omega) hz
          have hby := F2.1.few _ _ hs'
          obtain ⟨s'', k1, k2⟩ := F2.1.on _ _ hs (by omega)
          rw [hon, hs'] at k1
          cases k1
          have hlt := F2.1.fr _ _ hs'
          have hzs : z ≤ seq := ((HH.out.2.2.1.up_le hu).2.1 z (by simp)).2
          have hb2 : byOf m.L z = s'.by_ := by rw [← by_led l2 m.L z]; exact byOf_some hs'
          have hlen : (upsD m.L l1 ++ dnD m.L lr).length = n2 := by obtain ⟨a', c', e', _⟩ := d1.form; cases e'; rfl
          have hsz : n2 + s'.by_.length ≤ 1000000000 := by
            have q1 := HH.out.2.2.1.ups_len l1
            have q2 := HH.out.2.2.1.dn_len lr
            have q3 := HH.out.2.2.1.up_len HT.out.u1
            have q4 := HH.out.2.2.1.up_len hu2
            have q5 := HH.out.2.2.1.rg (by omega) HH.out.2.2.2.2.1
            have q6 := HH.out.2.2.1.fr m.now
            have q7 := hby.1
            have q8 := HH.out.2.2.1.up_le HT.out.u1
            have q9 := HH.out.2.2.1.rg (by omega) (HH.out.2.2.1.up_there HT.out.u1 HH.out.2.2.2.2.1)
            have q10 := HH.out.2.2.1.up_there hu1 HH.out.2.2.2.2.2
            obtain ⟨sn, hsn⟩ := Option.ne_none_iff_exists'.1 HH.out.2.2.2.2.1
            have q11 := HH.out.2.2.1.fr _ _ hsn
            obtain ⟨sm, hsm⟩ := Option.ne_none_iff_exists'.1 q10
            have q12 := HH.out.2.2.1.fr _ _ hsm
            rw [List.length_append] at hlen
            omega
          have HD : Hid _ := down_any (m := { m with L := led m.L l2 y, now := lr.headD y }) t1 (rg_of r1) hs (by rw [hon]; exact rg_of r2) (by rw [hon]; exact hs') hby (by omega)
          have H3 : Hid (∀ v4 w4, Gone B C t wr v4 s'.by_ { m with L := led m.L l2 y, now := s.on } w4 → ∃ a4 c4, v4 = .slice a4 s'.by_.length c4 ∧ Hid (Dw w.heap.size (.slice a2 n2 c2) (upsD m.L l1 ++ dnD m.L lr) w4 ∧ Dr (fun k => w.heap.size ≤ k) (Row w.heap.size) (.slice a4 s'.by_.length c4) s'.by_ w4 ∧ w.heap.size ≤ w4.heap.size ∧ Tw B C t { m with L := led m.L l2 y, now := z } w4 ∧ Ff TP B w w4)) := by
            rintro v4 w4 ⟨x1, x2, x3⟩
            obtain ⟨a4, c4, rfl, _⟩ := x1.form
            exact ⟨a4, c4, rfl, d1.ff x3 tp_delta tp_str, (x1.lower f1.size f1.size).dr, Nat.le_trans f1.size x3.size, by rw [← hon]; exact x2, f1.trans x3⟩
          have H4 : Hid (∀ a5 c5 w4 w5, Dw w.heap.size (.slice a2 n2 c2) (upsD m.L l1 ++ dnD m.L lr) w4 → Tw B C t { m with L := led m.L l2 y, now := z } w4 → Ff TP B w w4 → Dw w.heap.size (.slice a5 (n2 + s'.by_.length) c5) (upsD m.L l1 ++ dnD m.L lr ++ s'.by_) w5 → w4.grownBy w5 (Value.slice a2 n2 c2).ownBlock → Below w.heap.size w4 w5 → GoD B C t w m y l2 (upsD m.L l1) (.slice a5 (n2 + s'.by_.length) c5) w5 ∧ nowOf t w5 = z.toNat) := fun a5 c5 w4 w5 x1 x2 x3 x4 x5 x6 => by
            obtain ⟨cs, z1, z2⟩ := x1
            have t5 := x2.app (row_lift z1 fun j hj => Nat.le_trans HH.out.2.1 (z1.lt j hj).1) x5
            refine ⟨⟨lc', z :: lr, by rw [e1]; simp, ?_, t5, x3.new x6⟩, nowOf_eq t5⟩
            rw [dnD_cons, hb2, ← List.append_assoc]; exact x4
          have hnw := nowOf_eq t1
          have hme : z.toNat ≤ seq.toNat ∧ (lr.headD y).toNat < z.toNat := by
            have : s'.fr < z := hlt.2.1
            have e5 : s'.fr = lr.headD y := k2
            omega
          clear hw2 hs hs' F2 HI d1 t1 f1 hu hu1 hu2 hlt hb2 hz hby
          have hpe : Hid (lr.headD y = p) := hp
          clear hp e r1
          go_wp2_with fail
          refine Calls.mono HD.out ?_
          rintro e w4 ⟨v4, rfl, q4⟩
          obtain ⟨a4, c4, rfl, H5⟩ := H3.out _ _ q4
          clear HD H3 q4
          have HL : Hid ((upsD m.L l1 ++ dnD m.L lr).length + s'.by_.length = n2 + s'.by_.length) := by rw [hlen]; rfl
          go_wp2_with (at_builtin; refine wpl_del (K := n2 + s'.by_.length) rfl (.tmp 42) (.tmp 44) rfl (okRow _ _) rfl H5.out.1 rfl H5.out.2.1 HL.out (by omega) H5.out.2.2.1 ?_; intro a5 c5 w5 _ _ q1 q2 q3; have H6 : Hid _ := H4.out a5 c5 w4 w5 H5.out.1 H5.out.2.2.2.1 H5.out.2.2.2.2 q1 q2 q3; clear q1 q2 q3)
          go_roundw
          case rel => exact ⟨a5, _, c5, rfl, H6.out.1⟩
          case measure => rw [H6.out.2, hnw]; show seq.toNat - z.toNat < seq.toNat - (lr.headD y).toNat; omega
    · have g1 : (y != top) = true := by simpa using e
      obtain ⟨s, r, k1, rfl, k2, k3⟩ := u1.head (by rintro rfl; cases u1; exact e rfl)
      have hfr : s.fr ≠ -1 := by cases u1 with | cons a1 a2 a3 => rw [k1] at a1; cases a1; exact a2
      have ht := HH.out.2.2.1.from_there k1 hfr
      have hnm := HH.out.2.2.2.1
      have r1 := HH.out.2.2.1.rg (by omega) hy
      have hby := HH.out.2.2.1.few _ _ k1
      have hlt := HH.out.2.2.1.fr _ _ k1
      have hlen : (upsD m.L la).length = n := by obtain ⟨a', c', e', _⟩ := d1.form; cases e'; rfl
      have hu := HT.out.u1
      rw [e1] at hu
      obtain ⟨hu1, hu2⟩ := hu.cut
      have hsz : n + s.by_.length ≤ 1000000000 := by
        have q1 := HH.out.2.2.1.ups_len la
        have q3 := HH.out.2.2.1.up_len hu1
        have q7 := hby.1
        obtain ⟨sn, hsn⟩ := Option.ne_none_iff_exists'.1 HH.out.2.2.2.2.1
        have q11 := HH.out.2.2.1.fr _ _ hsn
        have : (y :: r).headD top = y := rfl
        rw [this] at q3
        omega
      have HD : Hid _ := up_any (m := { m with now := y }) t1 (rg_of r1) k1 hby (by omega)
      have H3 : Hid (∀ v4 w4, Gone B C t wr v4 (turnD s.by_) { m with now := s.fr } w4 → ∃ a4 c4, v4 = .slice a4 s.by_.length c4 ∧ Hid (Dw w.heap.size (.slice a' n c') (upsD m.L la) w4 ∧ Dr (fun k => w.heap.size ≤ k) (Row w.heap.size) (.slice a4 s.by_.length c4) (turnD s.by_) w4 ∧ w.heap.size ≤ w4.heap.size ∧ Tw B C t { m with now := s.fr } w4 ∧ Ff TP B w w4)) := by
        rintro v4 w4 ⟨x1, x2, x3⟩
        obtain ⟨a4, c4, e4, _⟩ := x1.form
        rw [turnD_len] at e4
        subst e4
        exact ⟨a4, c4, rfl, d1.ff x3 tp_delta tp_str, (x1.lower f1.size f1.size).dr, Nat.le_trans f1.size x3.size, x2, f1.trans x3⟩
      have H4 : Hid (∀ a5 c5 w4 w5, Dw w.heap.size (.slice a' n c') (upsD m.L la) w4 → Tw B C t { m with now := s.fr } w4 → Ff TP B w w4 → Dw w.heap.size (.slice a5 (n + s.by_.length) c5) (upsD m.L la ++ turnD s.by_) w5 → w4.grownBy w5 (Value.slice a' n c').ownBlock → Below w.heap.size w4 w5 → GoU B C t w m top l1 (.slice a5 (n + s.by_.length) c5) w5 ∧ nowOf t w5 = s.fr.toNat) := fun a5 c5 w4 w5 x1 x2 x3 x4 x5 x6 => by
        obtain ⟨cs, z1, z2⟩ := x1
        have t5 := x2.app (row_lift z1 fun j hj => Nat.le_trans HH.out.2.1 (z1.lt j hj).1) x5
        refine ⟨⟨s.fr, la ++ [y], r, by rw [e1]; simp, k3, ht, ?_, t5, x3.new x6⟩, nowOf_eq t5⟩
        rw [upsD_app, upsD_one, byOf_some k1]; exact x4
      have hnw := nowOf_eq t1
      have hme : s.fr.toNat < y.toNat := by
        have := HH.out.2.2.1.rg (by omega) ht
        omega
      clear HI d1 t1 f1 hu hu1 hu2 hlt k1 k2 k3 ht hby u1 hy
      go_wp2_with fail
      refine Calls.mono HD.out ?_
      rintro e w4 ⟨v4, rfl, q4⟩
      obtain ⟨a4, c4, rfl, H5⟩ := H3.out _ _ q4
      clear HD H3 q4
      have HL : Hid ((upsD m.L la).length + (turnD s.by_).length = n + s.by_.length) := by rw [hlen, turnD_len]; rfl
      go_wp2_with (at_builtin; refine wpl_del (K := n + s.by_.length) rfl (.tmp 28) (.tmp 30) rfl (okRow _ _) rfl H5.out.1 rfl H5.out.2.1 HL.out (by omega) H5.out.2.2.1 ?_; intro a5 c5 w5 _ _ q1 q2 q3; have H6 : Hid _ := H4.out a5 c5 w4 w5 H5.out.1 H5.out.2.2.2.1 H5.out.2.2.2.2 q1 q2 q3; clear q1 q2 q3)
      go_roundw
      case rel => exact ⟨a5, _, c5, rfl, H6.out.1⟩
      case measure => rw [H6.out.2, hnw]; exact hme
end
end Go.Proofs.Ytomiblpgjkmmcaa
