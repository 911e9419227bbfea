/- Texts that the proof of the law stands on: VG, VT, ZI, ZJ, VX, VW, ZK, ZM. -/
import Derived.Test.YtomiblpgjkmmcaaPartA
import Derived.Test.YtomiblpgjkmmcaaRows
import Derived.Lib.SmallJoins
import Derived.OpenShut
import Derived.Deep.Slices
import Derived.Deep.Strs
import Derived.Test.YtomiblpgjkmmcaaPartD
import Derived.Test.YtomiblpgjkmmcaaPartC
/- emendatorref12.texts, Same: of equal ones. -/
namespace Go.Proofs.Ytomiblpgjkmmcaa
open Go.ChangeShapes Go.WideShapes Go.ChangeAt Go.RowKit Go.Maps Go.MapKept
set_option linter.unusedVariables false
set_option linter.unusedSimpArgs false
set_option maxRecDepth 100000
set_option maxHeartbeats 4000000 in
theorem texts_eq {P Q : Nat → Prop} {v1 v2 : Value} {l : List ByteArray} {w : World} (h1 : Sl P v1 l w) (h2 : Sl Q v2 l w) :
    Calls Try.prog 40 #[v1, v2] w fun e w' => e = .returned (.bool true) ∧ ∃ q, w' = w.drewN q := by
  obtain ⟨a1, c1, rfl, p1, p2, _⟩ := h1.form
  obtain ⟨a2, c2, rfl, _⟩ := h2.form
  obtain ⟨n, hn⟩ : ∃ n, l.length = n := ⟨_, rfl⟩
  rw [hn] at h1 h2 p1 ⊢
  have HA : Hid (Sl P (.slice a1 n c1) l w ∧ Sl Q (.slice a2 n c2) l w ∧ l.length = n) := ⟨h1, h2, hn⟩
  have hd0 : ((n : Int) != (n : Int)) = false := by simp
  unfold maxLen at p2
  have hn9 : n ≤ 9223372036854775807 := by omega
  clear h1 h2 hn p1 p2
  go_enter Try.func40, Try.ntmps40
  go_wp2_with fail
  go_loopw [5] (fun vi wr => ∃ i : Nat, i ≤ n ∧ vi = .int .i64 i ∧ ∃ q, wr = w.drewN q) (fun vi _ => n - (intOf vi).toNat)
  case atStart => exact ⟨0, Nat.zero_le _, rfl, 0, rfl⟩
  case round =>
    obtain ⟨i, hi, rfl, q, rfl⟩ := hrel
    by_cases hlt : i < n
    · have hdl : decide ((i : Int) < (n : Int)) = true := decide_eq_true (by omega)
      obtain ⟨s, hs⟩ : ∃ s, l[i]? = some s := ⟨_, List.getElem?_eq_getElem (by rw [HA.out.2.2]; exact hlt)⟩
      obtain ⟨g1, o1, rfl, _, e1⟩ := HA.out.1.at_ hs
      obtain ⟨g2, o2, rfl, _, e2⟩ := HA.out.2.1.at_ hs
      have hli : (i : Int) < (n : Int) := by omega
      clear hs
      go_wp2_with fail
      go_quiet (fail)
      go_wp2_with fail
      go_roundw
      case rel => exact ⟨i + 1, by omega, by go_num, _, rfl⟩
      case measure => simp only [intOf]; omega
    · obtain rfl : i = n := by omega
      have hdl : decide ((i : Int) < (i : Int)) = false := by simp
      go_wp2_with fail
      go_ret
      exact ⟨rfl, _, rfl⟩
set_option maxHeartbeats 16000000 in
theorem same_eq {P Q : Nat → Prop} {X Y : Xl} {B C : Nat} (okx : Okx B X) (oky : Okx C Y) {v1 v2 : Value} {ds : List Dl} {w : World} (h1 : Dr P X v1 ds w) (h2 : Dr Q Y v2 ds w) :
    Calls Try.prog 20 #[v1, v2] w fun e w' => e = .returned (.bool true) ∧ ∃ q, w' = w.drewN q := by
  obtain ⟨a1, c1, rfl, p1, p2, _⟩ := h1.form
  obtain ⟨a2, c2, rfl, _⟩ := h2.form
  obtain ⟨n, hn⟩ : ∃ n, ds.length = n := ⟨_, rfl⟩
  rw [hn] at h1 h2 p1 ⊢
  have HA : Hid (Dr P X (.slice a1 n c1) ds w ∧ Dr Q Y (.slice a2 n c2) ds w ∧ ds.length = n) := ⟨h1, h2, hn⟩
  have hd0 : ((n : Int) != (n : Int)) = false := by simp
  unfold maxLen at p2
  have hn9 : n ≤ 9223372036854775807 := by omega
  clear h1 h2 hn p1 p2
  go_enter Try.func20, Try.ntmps20
  go_wp2_with fail
  go_loopw [5] (fun vi wr => ∃ i : Nat, i ≤ n ∧ vi = .int .i64 i ∧ ∃ q, wr = w.drewN q) (fun vi _ => n - (intOf vi).toNat)
  case atStart => exact ⟨0, Nat.zero_le _, rfl, 0, rfl⟩
  case round =>
    obtain ⟨i, hi, rfl, q, rfl⟩ := hrel
    by_cases hlt : i < n
    · have hdl : decide ((i : Int) < (n : Int)) = true := decide_eq_true (by omega)
      have hl2 : i < n := hlt
      obtain ⟨d, hd⟩ : ∃ d, ds[i]? = some d := ⟨_, List.getElem?_eq_getElem (by rw [HA.out.2.2]; exact hlt)⟩
      obtain ⟨g1, o1, x1, y1, rfl, _, c0, c1', c2', r1, r2⟩ := (HA.out.1.kp okx (kp_drewN w q)).at_ hd
      obtain ⟨g2, o2, x2, y2, rfl, _, c3, c4, c5, r3, r4⟩ := (HA.out.2.1.kp oky (kp_drewN w q)).at_ hd
      obtain ⟨f1, m1, rfl, _⟩ := (okx.sl r1).form
      obtain ⟨f2, m2, rfl, _⟩ := (okx.sl r2).form
      obtain ⟨f3, m3, rfl, _⟩ := (oky.sl r3).form
      obtain ⟨f4, m4, rfl, _⟩ := (oky.sl r4).form
      have HT1 : Hid (∀ m, Calls Try.prog 40 #[.slice f1 d.old.length m1, .slice f3 d.old.length m3] ((w.drewN q).drewN m) fun e w' => e = .returned (.bool true) ∧ ∃ k, w' = (w.drewN q).drewN k) := fun m => (texts_eq ((okx.sl r1).kp (kp_drewN _ m)) ((oky.sl r3).kp (kp_drewN _ m))).mono (by rintro e w' ⟨rfl, k, rfl⟩; exact ⟨rfl, m + k, by rw [drew2]⟩)
      have HT2 : Hid (∀ m, Calls Try.prog 40 #[.slice f2 d.nw.length m2, .slice f4 d.nw.length m4] ((w.drewN q).drewN m) fun e w' => e = .returned (.bool true) ∧ ∃ k, w' = (w.drewN q).drewN k) := fun m => (texts_eq ((okx.sl r2).kp (kp_drewN _ m)) ((oky.sl r4).kp (kp_drewN _ m))).mono (by rintro e w' ⟨rfl, k, rfl⟩; exact ⟨rfl, m + k, by rw [drew2]⟩)
      generalize d.old.length = n1 at HT1 c1' c4
      generalize d.nw.length = n2 at HT2 c2' c5
      generalize d.at_ = at0 at c0 c3
      have hda : (at0 != at0) = false := by simp
      clear r1 r2 r3 r4 hd HA
      go_upto_region 6 with fail
      obtain ⟨W1, hW1⟩ : ∃ W1, w.drewN q = W1 := ⟨_, rfl⟩
      have HW : Hid (w.drewN q = W1) := hW1
      rw [hW1] at HT1 HT2 c0 c1' c2' c3 c4 c5 ⊢
      clear hW1
      refine wp_region_noPanic ?_
      refine wp_region_held_drew (S := fun z => z.cell? ⟨g1, o1 + i * 3, none⟩ = some (.int .i64 at0) ∧ z.cell? ⟨g1, o1 + i * 3 + 1, none⟩ = some (.slice f1 n1 m1) ∧ z.cell? ⟨g1, o1 + i * 3 + 2, none⟩ = some (.slice f2 n2 m2) ∧ z.cell? ⟨g2, o2 + i * 3, none⟩ = some (.int .i64 at0) ∧ z.cell? ⟨g2, o2 + i * 3 + 1, none⟩ = some (.slice f3 n1 m3) ∧ z.cell? ⟨g2, o2 + i * 3 + 2, none⟩ = some (.slice f4 n2 m4)) (by kernel_rfl) (⟨c0, c1', c2', c3, c4, c5⟩) (fun hHeld => ?_)
      refine takeAt 0 (some 17) ?_ rfl rfl (by kernel_rfl) (by kernel_rfl) (by kernel_rfl) (fun _ _ _ h => h) (Or.inl ⟨by rfl, ?_⟩) hHeld ?_
      rotate_left
      · intro w hSw
        go_simp <;> with_reducible rfl
      try simp only [Act.put, List.setIfInBounds_toArray, List.set_cons_zero, List.set_cons_succ]
      refine takeAt 1 (some 18) ?_ rfl rfl (by kernel_rfl) (by kernel_rfl) (by kernel_rfl) (fun _ _ _ h => h) (Or.inl ⟨by rfl, ?_⟩) hHeld ?_
      rotate_left
      · intro w hSw
        go_simp <;> with_reducible rfl
      try simp only [Act.put, List.setIfInBounds_toArray, List.set_cons_zero, List.set_cons_succ]
      refine takeAt 2 (some 19) ?_ rfl rfl (by kernel_rfl) (by kernel_rfl) (by kernel_rfl) (fun _ _ _ h => h) (Or.inl ⟨by rfl, ?_⟩) hHeld ?_
      rotate_left
      · intro w hSw
        go_simp <;> with_reducible rfl
      try simp only [Act.put, List.setIfInBounds_toArray, List.set_cons_zero, List.set_cons_succ]
      refine takeAt 3 (some 20) ?_ rfl rfl (by kernel_rfl) (by kernel_rfl) (by kernel_rfl) (fun _ _ _ h => h) (Or.inl ⟨by rfl, ?_⟩) hHeld ?_
      rotate_left
      · intro w hSw
        go_simp <;> with_reducible rfl
      try simp only [Act.put, List.setIfInBounds_toArray, List.set_cons_zero, List.set_cons_succ]
      refine takeAt 4 (some 21) ?_ rfl rfl (by kernel_rfl) (by kernel_rfl) (by kernel_rfl) (fun _ _ _ h => h) (Or.inl ⟨by rfl, ?_⟩) hHeld ?_
      rotate_left
      · intro w hSw
        go_simp <;> with_reducible rfl
      try simp only [Act.put, List.setIfInBounds_toArray, List.set_cons_zero, List.set_cons_succ]
      refine takeAt 5 (some 22) ?_ rfl rfl (by kernel_rfl) (by kernel_rfl) (by kernel_rfl) (fun _ _ _ h => h) (Or.inl ⟨by rfl, ?_⟩) hHeld ?_
      rotate_left
      · intro w hSw
        go_simp <;> with_reducible rfl
      try simp only [Act.put, List.setIfInBounds_toArray, List.set_cons_zero, List.set_cons_succ]
      refine takeAt 6 (some 23) ?_ rfl rfl (by kernel_rfl) (by kernel_rfl) (by kernel_rfl) (fun _ _ _ h => h) (Or.inl ⟨by rfl, ?_⟩) hHeld ?_
      rotate_left
      · intro w hSw
        go_simp <;> with_reducible rfl
      try simp only [Act.put, List.setIfInBounds_toArray, List.set_cons_zero, List.set_cons_succ]
      refine takeAt 7 (some 24) ?_ rfl rfl (by kernel_rfl) (by kernel_rfl) (by kernel_rfl) (fun _ _ _ h => h) (Or.inl ⟨by rfl, ?_⟩) hHeld ?_
      rotate_left
      · intro w hSw
        go_simp <;> with_reducible rfl
      try simp only [Act.put, List.setIfInBounds_toArray, List.set_cons_zero, List.set_cons_succ]
      refine takeAt 8 (some 25) ?_ rfl rfl (by kernel_rfl) (by kernel_rfl) (by kernel_rfl) (fun _ _ _ h => h) (Or.inl ⟨by rfl, ?_⟩) hHeld ?_
      rotate_left
      · intro w hSw
        go_simp <;> with_reducible rfl
      try simp only [Act.put, List.setIfInBounds_toArray, List.set_cons_zero, List.set_cons_succ]
      refine takeAt 9 (some 26) ?_ rfl rfl (by kernel_rfl) (by kernel_rfl) (by kernel_rfl) (fun _ _ _ h => h) (Or.inl ⟨by rfl, ?_⟩) hHeld ?_
      rotate_left
      · intro w hSw
        go_simp <;> with_reducible rfl
      try simp only [Act.put, List.setIfInBounds_toArray, List.set_cons_zero, List.set_cons_succ]
      refine takeAt 10 (some 27) ?_ rfl rfl (by kernel_rfl) (by kernel_rfl) (by kernel_rfl) (fun _ _ _ h => h) (Or.inl ⟨by rfl, ?_⟩) hHeld ?_
      rotate_left
      · intro w hSw
        go_simp <;> with_reducible rfl
      try simp only [Act.put, List.setIfInBounds_toArray, List.set_cons_zero, List.set_cons_succ]
      refine takeAt 11 (some 28) ?_ rfl rfl (by kernel_rfl) (by kernel_rfl) (by kernel_rfl) (fun _ _ _ h => h) (Or.inl ⟨by rfl, ?_⟩) hHeld ?_
      rotate_left
      · intro w hSw
        go_simp <;> with_reducible rfl
      try simp only [Act.put, List.setIfInBounds_toArray, List.set_cons_zero, List.set_cons_succ]
      refine takeAt 12 (some 29) ?_ rfl rfl (by kernel_rfl) (by kernel_rfl) (by kernel_rfl) (fun _ _ _ h => h) (Or.inl ⟨by rfl, ?_⟩) hHeld ?_
      rotate_left
      · intro w hSw
        go_simp <;> with_reducible rfl
      try simp only [Act.put, List.setIfInBounds_toArray, List.set_cons_zero, List.set_cons_succ]
      refine takeAt 13 (some 30) ?_ rfl rfl (by kernel_rfl) (by kernel_rfl) (by kernel_rfl) (fun _ _ _ h => h) (Or.inl ⟨by rfl, ?_⟩) hHeld ?_
      rotate_left
      · intro w hSw
        go_simp <;> with_reducible rfl
      try simp only [Act.put, List.setIfInBounds_toArray, List.set_cons_zero, List.set_cons_succ]
      refine takeAt 14 (some 31) ?_ rfl rfl (by kernel_rfl) (by kernel_rfl) (by kernel_rfl) (fun _ _ _ h => h) (Or.inl ⟨by rfl, ?_⟩) hHeld ?_
      rotate_left
      · intro w hSw
        go_simp <;> with_reducible rfl
      try simp only [Act.put, List.setIfInBounds_toArray, List.set_cons_zero, List.set_cons_succ]
      refine takeAt 15 (some 32) ?_ rfl rfl (by kernel_rfl) (by kernel_rfl) (by kernel_rfl) (fun _ _ _ h => h) (Or.inl ⟨by rfl, ?_⟩) hHeld ?_
      rotate_left
      · intro w hSw
        go_simp <;> with_reducible rfl
      try simp only [Act.put, List.setIfInBounds_toArray, List.set_cons_zero, List.set_cons_succ]
      refine takeAt 16 (some 33) ?_ rfl rfl (by kernel_rfl) (by kernel_rfl) (by kernel_rfl) (fun _ _ _ h => h) (Or.inl ⟨by rfl, ?_⟩) hHeld ?_
      rotate_left
      · intro w hSw
        go_simp <;> with_reducible rfl
      try simp only [Act.put, List.setIfInBounds_toArray, List.set_cons_zero, List.set_cons_succ]
      refine takeAt 17 (some 34) ?_ rfl rfl (by kernel_rfl) (by kernel_rfl) (by kernel_rfl) (fun _ _ _ h => h) (Or.inl ⟨by rfl, ?_⟩) hHeld ?_
      rotate_left
      · intro w hSw
        go_simp <;> with_reducible rfl
      try simp only [Act.put, List.setIfInBounds_toArray, List.set_cons_zero, List.set_cons_succ]
      refine takeAt 18 (some 35) ?_ rfl rfl (by kernel_rfl) (by kernel_rfl) (by kernel_rfl) (fun _ _ _ h => h) (Or.inl ⟨by rfl, ?_⟩) hHeld ?_
      rotate_left
      · intro w hSw
        go_simp <;> with_reducible rfl
      try simp only [Act.put, List.setIfInBounds_toArray, List.set_cons_zero, List.set_cons_succ]
      refine takeAt 19 (some 36) ?_ rfl rfl (by kernel_rfl) (by kernel_rfl) (by kernel_rfl) (fun _ _ _ h => h) (Or.inl ⟨by rfl, ?_⟩) hHeld ?_
      rotate_left
      · intro w hSw
        go_simp <;> with_reducible rfl
      try simp only [Act.put, List.setIfInBounds_toArray, List.set_cons_zero, List.set_cons_succ]
      refine takeAt 20 (some 37) ?_ rfl rfl (by kernel_rfl) (by kernel_rfl) (by kernel_rfl) (fun _ _ _ h => h) (Or.inl ⟨by rfl, ?_⟩) hHeld ?_
      rotate_left
      · intro w hSw
        go_simp <;> with_reducible rfl
      try simp only [Act.put, List.setIfInBounds_toArray, List.set_cons_zero, List.set_cons_succ]
      refine takeAt 21 (some 38) ?_ rfl rfl (by kernel_rfl) (by kernel_rfl) (by kernel_rfl) (fun _ _ _ h => h) (Or.inl ⟨by rfl, ?_⟩) hHeld ?_
      rotate_left
      · intro w hSw
        go_simp <;> with_reducible rfl
      try simp only [Act.put, List.setIfInBounds_toArray, List.set_cons_zero, List.set_cons_succ]
      refine callAtG 22 39 40 (vals := #[.slice f1 n1 m1, .slice f3 n1 m3]) (by kernel_rfl) rfl rfl rfl (by rfl) (by simp [Act.eval]) Try.func40 (by kernel_rfl) (by kernel_rfl) ?_
      refine Calls.mono (HT1.out 1) ?_
      rintro e w2 ⟨rfl, k2, rfl⟩
      refine ⟨_, rfl, ⟨kp_cell (kp_drewN _ k2) c0, kp_cell (kp_drewN _ k2) c1', kp_cell (kp_drewN _ k2) c2', kp_cell (kp_drewN _ k2) c3, kp_cell (kp_drewN _ k2) c4, kp_cell (kp_drewN _ k2) c5⟩, fun hHeld => ?_⟩
      try simp only [Act.put, List.setIfInBounds_toArray, List.set_cons_zero, List.set_cons_succ]
      refine takeAt 23 (some 40) ?_ rfl rfl (by kernel_rfl) (by kernel_rfl) (by kernel_rfl) (fun _ _ _ h => h) (Or.inl ⟨by rfl, ?_⟩) hHeld ?_
      rotate_left
      · intro w hSw
        go_simp <;> with_reducible rfl
      try simp only [Act.put, List.setIfInBounds_toArray, List.set_cons_zero, List.set_cons_succ]
      refine takeAt 24 (some 41) ?_ rfl rfl (by kernel_rfl) (by kernel_rfl) (by kernel_rfl) (fun _ _ _ h => h) (Or.inl ⟨by rfl, ?_⟩) hHeld ?_
      rotate_left
      · intro w hSw
        go_simp <;> with_reducible rfl
      try simp only [Act.put, List.setIfInBounds_toArray, List.set_cons_zero, List.set_cons_succ]
      refine takeAt 25 (some 42) ?_ rfl rfl (by kernel_rfl) (by kernel_rfl) (by kernel_rfl) (fun _ _ _ h => h) (Or.inl ⟨by rfl, ?_⟩) hHeld ?_
      rotate_left
      · intro w hSw
        go_simp <;> with_reducible rfl
      try simp only [Act.put, List.setIfInBounds_toArray, List.set_cons_zero, List.set_cons_succ]
      refine takeAt 26 (some 43) ?_ rfl rfl (by kernel_rfl) (by kernel_rfl) (by kernel_rfl) (fun _ _ _ h => h) (Or.inl ⟨by rfl, ?_⟩) hHeld ?_
      rotate_left
      · intro w hSw
        go_simp <;> with_reducible rfl
      try simp only [Act.put, List.setIfInBounds_toArray, List.set_cons_zero, List.set_cons_succ]
      refine takeAt 27 (some 44) ?_ rfl rfl (by kernel_rfl) (by kernel_rfl) (by kernel_rfl) (fun _ _ _ h => h) (Or.inl ⟨by rfl, ?_⟩) hHeld ?_
      rotate_left
      · intro w hSw
        go_simp <;> with_reducible rfl
      try simp only [Act.put, List.setIfInBounds_toArray, List.set_cons_zero, List.set_cons_succ]
      refine takeAt 28 (some 45) ?_ rfl rfl (by kernel_rfl) (by kernel_rfl) (by kernel_rfl) (fun _ _ _ h => h) (Or.inl ⟨by rfl, ?_⟩) hHeld ?_
      rotate_left
      · intro w hSw
        go_simp <;> with_reducible rfl
      try simp only [Act.put, List.setIfInBounds_toArray, List.set_cons_zero, List.set_cons_succ]
      refine takeAt 29 (some 46) ?_ rfl rfl (by kernel_rfl) (by kernel_rfl) (by kernel_rfl) (fun _ _ _ h => h) (Or.inl ⟨by rfl, ?_⟩) hHeld ?_
      rotate_left
      · intro w hSw
        go_simp <;> with_reducible rfl
      try simp only [Act.put, List.setIfInBounds_toArray, List.set_cons_zero, List.set_cons_succ]
      refine takeAt 30 (some 47) ?_ rfl rfl (by kernel_rfl) (by kernel_rfl) (by kernel_rfl) (fun _ _ _ h => h) (Or.inl ⟨by rfl, ?_⟩) hHeld ?_
      rotate_left
      · intro w hSw
        go_simp <;> with_reducible rfl
      try simp only [Act.put, List.setIfInBounds_toArray, List.set_cons_zero, List.set_cons_succ]
      refine takeAt 31 (some 48) ?_ rfl rfl (by kernel_rfl) (by kernel_rfl) (by kernel_rfl) (fun _ _ _ h => h) (Or.inl ⟨by rfl, ?_⟩) hHeld ?_
      rotate_left
      · intro w hSw
        go_simp <;> with_reducible rfl
      try simp only [Act.put, List.setIfInBounds_toArray, List.set_cons_zero, List.set_cons_succ]
      refine takeAt 32 (some 49) ?_ rfl rfl (by kernel_rfl) (by kernel_rfl) (by kernel_rfl) (fun _ _ _ h => h) (Or.inl ⟨by rfl, ?_⟩) hHeld ?_
      rotate_left
      · intro w hSw
        go_simp <;> with_reducible rfl
      try simp only [Act.put, List.setIfInBounds_toArray, List.set_cons_zero, List.set_cons_succ]
      refine takeAt 33 (some 50) ?_ rfl rfl (by kernel_rfl) (by kernel_rfl) (by kernel_rfl) (fun _ _ _ h => h) (Or.inl ⟨by rfl, ?_⟩) hHeld ?_
      rotate_left
      · intro w hSw
        go_simp <;> with_reducible rfl
      try simp only [Act.put, List.setIfInBounds_toArray, List.set_cons_zero, List.set_cons_succ]
      refine takeAt 34 (some 51) ?_ rfl rfl (by kernel_rfl) (by kernel_rfl) (by kernel_rfl) (fun _ _ _ h => h) (Or.inl ⟨by rfl, ?_⟩) hHeld ?_
      rotate_left
      · intro w hSw
        go_simp <;> with_reducible rfl
      try simp only [Act.put, List.setIfInBounds_toArray, List.set_cons_zero, List.set_cons_succ]
      refine takeAt 35 (some 52) ?_ rfl rfl (by kernel_rfl) (by kernel_rfl) (by kernel_rfl) (fun _ _ _ h => h) (Or.inl ⟨by rfl, ?_⟩) hHeld ?_
      rotate_left
      · intro w hSw
        go_simp <;> with_reducible rfl
      try simp only [Act.put, List.setIfInBounds_toArray, List.set_cons_zero, List.set_cons_succ]
      refine callAtG 36 53 40 (vals := #[.slice f2 n2 m2, .slice f4 n2 m4]) (by kernel_rfl) rfl rfl rfl (by rfl) (by simp [Act.eval]) Try.func40 (by kernel_rfl) (by kernel_rfl) ?_
      refine Calls.mono (HT2.out k2) ?_
      rintro e w3 ⟨rfl, k3, rfl⟩
      refine ⟨_, rfl, ⟨kp_cell (kp_drewN _ k3) c0, kp_cell (kp_drewN _ k3) c1', kp_cell (kp_drewN _ k3) c2', kp_cell (kp_drewN _ k3) c3, kp_cell (kp_drewN _ k3) c4, kp_cell (kp_drewN _ k3) c5⟩, fun hHeld => ?_⟩
      try simp only [Act.put, List.setIfInBounds_toArray, List.set_cons_zero, List.set_cons_succ]
      refine takeAt 37 (some 54) ?_ rfl rfl (by kernel_rfl) (by kernel_rfl) (by kernel_rfl) (fun _ _ _ h => h) (Or.inl ⟨by rfl, ?_⟩) hHeld ?_
      rotate_left
      · intro w hSw
        go_simp <;> with_reducible rfl
      try simp only [Act.put, List.setIfInBounds_toArray, List.set_cons_zero, List.set_cons_succ]
      refine takeAt 38 (some 55) ?_ rfl rfl (by kernel_rfl) (by kernel_rfl) (by kernel_rfl) (fun _ _ _ h => h) (Or.inl ⟨by rfl, ?_⟩) hHeld ?_
      rotate_left
      · intro w hSw
        go_simp <;> with_reducible rfl
      try simp only [Act.put, List.setIfInBounds_toArray, List.set_cons_zero, List.set_cons_succ]
      refine wpAnyH_done (by kernel_rfl) ?_ _
      refine NoPanic.normal ?_
      go_wp2_with fail
      go_roundw
      case rel => exact ⟨i + 1, by omega, by go_num, q + k3, by rw [← HW.out, drew2]⟩
      case measure => simp only [intOf]; omega
    · obtain rfl : i = n := by omega
      have hdl : decide ((i : Int) < (i : Int)) = false := by simp
      go_wp2_with fail
      go_ret
      exact ⟨rfl, _, rfl⟩
end Go.Proofs.Ytomiblpgjkmmcaa
/- Changes and calls that are handed in. -/
namespace Go.Proofs.Ytomiblpgjkmmcaa
open Go.ChangeShapes Go.WideShapes Go.ChangeAt Go.RowKit
set_option linter.unusedVariables false
set_option linter.unusedSimpArgs false
set_option maxRecDepth 100000
def Anyw (_ : Nat) : Prop := True
theorem fU8 {a : Int} (w : (Lit.int .u8 a).wf = true) : 0 ≤ a ∧ a < 256 := by
  have h : (decide (IntKind.u8.min ≤ a) && decide (a ≤ IntKind.u8.max)) = true := w
  rw [Bool.and_eq_true, decide_eq_true_eq, decide_eq_true_eq] at h
  have e1 : IntKind.u8.min = 0 := by decide
  have e2 : IntKind.u8.max = 255 := by decide
  omega
theorem underDelta : (Try.prog.underlying 35).map (fun | .struct fs => fs.toList.map (fun f => (f.type, f.offset)) | _ => []) = some [(3, 0), (33, 1), (33, 2)] := by kernel_rfl
theorem underOp : (Try.prog.underlying 45).map (fun | .struct fs => fs.toList.map (fun f => (f.type, f.offset)) | _ => []) = some [(5, 0), (3, 1), (25, 2)] := by kernel_rfl
theorem cDelta : Try.prog.cellsOf 35 = 3 := by kernel_rfl
theorem cOp : Try.prog.cellsOf 45 = 3 := by kernel_rfl
theorem cInt : Try.prog.cellsOf 3 = 1 := by kernel_rfl
theorem cDeltas : Try.prog.cellsOf 25 = 1 := by kernel_rfl
theorem cUB : Try.prog.cellsOf 5 = 1 := by kernel_rfl
theorem cStr : Try.prog.cellsOf 9 = 1 := by kernel_rfl
theorem cStrs : Try.prog.cellsOf 33 = 1 := by kernel_rfl
theorem bulk_mem {H : Type} {d : DataW H} {l : List (DataW H)} (h : d ∈ l) : Rows.uptoBulk d ≤ Rows.uptoBulkAll l := by
  induction l with
  | nil => cases h
  | cons x r ih =>
    simp only [Rows.uptoBulkAll]
    cases List.mem_cons.1 h with
    | inl e => subst e; omega
    | inr e => have := ih e; omega
theorem bulk_of {H : Type} {l : List (DataW H)} (hk : Rows.uptoSmall H l = true) {j : Nat} {d : DataW H} (hd : l[j]? = some d) : Rows.uptoBulk d ≤ 1048576 := by
  have h : Rows.uptoBulkAll l ≤ 1048576 := of_decide_eq_true hk
  have := bulk_mem (List.mem_of_getElem? hd)
  omega
theorem bulk_one {H : Type} (x : DataW H) : 1 ≤ Rows.uptoBulk x := by
  cases x with
  | lit l => cases l <;> simp [Rows.uptoBulk]
  | _ => simp [Rows.uptoBulk]
theorem bulk_sum {H : Type} (D : Nat → DataW H) (w : Nat → Nat) : ∀ l : List Nat, (∀ i ∈ l, w i ≤ Rows.uptoBulk (D i)) → (l.map w).sum ≤ Rows.uptoBulkAll (l.map D)
  | [], _ => by simp
  | a :: r, h => by
    have h1 := h a (by simp)
    have h2 := bulk_sum D w r fun i hi => h i (by simp [hi])
    simp only [List.map_cons, List.sum_cons, Rows.uptoBulkAll]
    omega
theorem bulk_len {H : Type} (l : List (DataW H)) : l.length ≤ Rows.uptoBulkAll l := by
  induction l with
  | nil => simp
  | cons x r ih =>
    have := bulk_one x
    simp only [Rows.uptoBulkAll, List.length_cons]; omega
theorem lines_cells {H : Type} {enc : TypeId × Value → H} {W : World} {fuel : Nat} {v : Value} {d : DataW H} {p : List MemPlace} (h : DataW.trod enc Try.prog W 0 (fun _ => true) true fuel 33 [v] = some (d, p)) :
    ∃ ls, Sl Anyw v ls W ∧ ls.length + 1 ≤ Rows.uptoBulk d := by
  rcases Deep.open_strs Try.underlying33 Try.underlying9 cStr h with ⟨hcs, hx⟩ | ⟨a, len, cap, m, Sx, hcs, _, hl, hm, hmm, hx, hcell⟩
  · simp only [List.cons.injEq, and_true] at hcs
    subst hcs
    exact ⟨[], Sl.nil _ _, bulk_one d⟩
  · simp only [List.cons.injEq, and_true] at hcs
    subst hcs
    simp only [if_true] at hmm
    subst hmm
    simp only [Prod.mk.injEq] at hx
    refine ⟨(List.range len).map Sx, ⟨some a, m, by simp, by simpa using hl, hm, (fun e => by cases e), fun i s hi => ?_⟩, ?_⟩
    · simp only [List.getElem?_map, Option.map_eq_some_iff] at hi
      obtain ⟨k, hk, rfl⟩ := hi
      obtain ⟨hlt, hk⟩ := List.getElem?_eq_some_iff.1 hk
      simp at hk hlt
      subst hk
      obtain ⟨b, off, spot⟩ := a
      have hspot : spot = none := by simpa [Addr.add] using World.cell?_spot (hcell 0 (by omega)).1
      subst hspot
      refine ⟨b, off, rfl, trivial, ?_⟩
      have := (hcell i (by omega)).1
      rw [add2] at this
      exact this
    · rw [hx.1]
      simp only [Rows.uptoBulk]
      have := bulk_len ((List.range len).map fun i => (DataW.lit (.string (Sx i).data.toList) : DataW H))
      simp only [List.length_map, List.length_range] at this ⊢
      omega
/-- What a change weighs. -/
def wD (d : Dl) : Nat := 1 + d.old.length + d.nw.length
theorem delta_cells {H : Type} {enc : TypeId × Value → H} {W : World} {fuel : Nat} {cs : List Value} {x : DataW H × List MemPlace} (h : DataW.trod enc Try.prog W 0 (fun _ => true) true fuel 35 cs = some x) :
    ∃ (c : Dv) (d : Dl), cs = [.int .i64 c.a, c.x, c.y] ∧ c.a = d.at_ ∧ Sl Anyw c.x d.old W ∧ Sl Anyw c.y d.nw W ∧ wD d ≤ Rows.uptoBulk x.1 := by
  have hu := underDelta
  rw [Option.map_eq_some_iff] at hu
  obtain ⟨ty, hty, hfs⟩ := hu
  match ty, hty, hfs with
  | .struct fs, hty, hfs =>
    simp only at hfs
    obtain ⟨xs, n, _, rfl, hcl, hxl, hf⟩ := DataW.trod_struct hty h
    rw [cDelta] at hcl
    match cs, hcl with
    | [k0, k1, k2], _ =>
      obtain ⟨fl⟩ := fs
      match fl, hfs with
      | [f0, f1, f2], hfs =>
        simp only [List.map_cons, List.map_nil, List.cons.injEq, Prod.mk.injEq, and_true] at hfs
        obtain ⟨⟨t0, o0⟩, ⟨t1, o1⟩, ⟨t2, o2⟩⟩ := hfs
        match xs, hxl with
        | [y0, y1, y2], _ =>
          have g0 := hf 0 f0 rfl
          have g1 := hf 1 f1 rfl
          have g2 := hf 2 f2 rfl
          rw [t0, o0, cInt] at g0
          rw [t1, o1, cStrs] at g1
          rw [t2, o2, cStrs] at g2
          obtain ⟨a0, e0, r0, w0⟩ := DataW.trod_int Try.underlying3 g0
          have g1' : DataW.trod enc Try.prog W 0 (fun _ => true) true n 33 [k1] = some (y1.1, y1.2) := g1
          have g2' : DataW.trod enc Try.prog W 0 (fun _ => true) true n 33 [k2] = some (y2.1, y2.2) := g2
          obtain ⟨l1, h1, h2⟩ := lines_cells g1'
          obtain ⟨l2, h3, h4⟩ := lines_cells g2'
          simp at e0
          refine ⟨⟨a0, k1, k2⟩, ⟨a0, l1, l2⟩, by rw [e0], rfl, h1, h3, ?_⟩
          show wD ⟨a0, l1, l2⟩ ≤ Rows.uptoBulk (DataW.agg [y0.1, y1.1, y2.1] : DataW H)
          simp only [Rows.uptoBulk, Rows.uptoBulkAll, wD]
          omega
/-- Changes that are handed in: they lie below B. -/
abbrev DArg (B : Nat) (v : Value) (ds : List Dl) (w : World) : Prop := Dr (fun k => k < B) (Sl fun k => k < B) v ds w
theorem DArg.below {B : Nat} {v : Value} {ds : List Dl} {w w1 : World} (h : DArg B v ds w) (k : Below B w w1) : DArg B v ds w1 := by
  obtain ⟨a, cap, cs, rfl, h1, h2, h3, h4, h5⟩ := h
  have sl : ∀ v ls, Sl (fun k => k < B) v ls w → Sl (fun k => k < B) v ls w1 := fun v ls q => by
    obtain ⟨a, cap, rfl, q1, q2, q3, q4⟩ := q
    refine ⟨a, cap, rfl, q1, q2, q3, fun i s hi => ?_⟩
    obtain ⟨g, o, e, p, c⟩ := q4 i s hi
    exact ⟨g, o, e, p, by rw [World.cell?_of_block (k.block g p)]; exact c⟩
  refine ⟨a, cap, cs, rfl, h1, h2, h3, fun j u hj => ?_, h5.imp sl⟩
  obtain ⟨g, o, e, p, c⟩ := h4 j u hj
  exact ⟨g, o, e, p, by rw [World.cell?_of_block (k.block g p)]; exact c⟩
theorem dels_cells {H : Type} {enc : TypeId × Value → H} {W : World} {fuel : Nat} {v : Value} {d : DataW H} {p : List MemPlace} (h : DataW.trod enc Try.prog W 0 (fun _ => true) true fuel 25 [v] = some (d, p)) :
    ∃ ds, DArg W.heap.size v ds W ∧ (ds.map wD).sum + 1 ≤ Rows.uptoBulk d := by
  rcases Deep.open_slice Try.underlying25 h with ⟨hcs, hx⟩ | ⟨a, len, cap, m, n, D, Pl, hcs, _, hl, hm, hmm, hx, hcell⟩
  · simp only [List.cons.injEq, and_true] at hcs
    subst hcs
    exact ⟨[], ⟨none, 0, [], rfl, by simp, by simp [maxLen], (fun _ => rfl), (fun j u hj => by cases hj), rfl, fun i d c hi => by cases hi⟩, bulk_one d⟩
  · simp only [List.cons.injEq, and_true] at hcs
    subst hcs
    simp only [if_true] at hmm
    subst hmm
    simp only [Prod.mk.injEq] at hx
    rw [cDelta] at hcell
    have each : ∀ i, i < m → ∃ o : Dv × Dl, (∀ (j : Nat) c, [Value.int .i64 o.1.a, o.1.x, o.1.y][j]? = some c → W.cell? ((a.add (i * 3)).add j) = some c) ∧ o.1.a = o.2.at_ ∧ Sl Anyw o.1.x o.2.old W ∧ Sl Anyw o.1.y o.2.nw W ∧ wD o.2 ≤ Rows.uptoBulk (D i) := fun i hi => by
      obtain ⟨cs', h1, h2⟩ := hcell i hi
      obtain ⟨c, d, e, r1⟩ := delta_cells h2
      obtain ⟨_, hlen, hc⟩ := World.cells?_some h1
      refine ⟨(c, d), fun j u hj => ?_, r1⟩
      rw [hc j (by have := (List.getElem?_eq_some_iff.1 hj).1; simpa using this), e]; exact hj
    haveI : Inhabited (Dv × Dl) := ⟨(⟨0, .slice none 0 0, .slice none 0 0⟩, ⟨0, [], []⟩)⟩
    obtain ⟨F, hF⟩ := Deep.choose_lt each
    have sl : ∀ {v ls}, Sl Anyw v ls W → Sl (fun k => k < W.heap.size) v ls W := fun q => q.mono fun k hk _ => hk
    refine ⟨(List.range len).map fun i => (F i).2, ⟨some a, m, (List.range len).map fun i => (F i).1, by simp, by simpa using hl, hm, (fun e => by cases e), fun j u hj => ?_, by simp, fun i d c h1 h2 => ?_⟩, ?_⟩
    · obtain ⟨b, off, spot⟩ := a
      have hjl := (List.getElem?_eq_some_iff.1 hj).1
      rw [flatV_len, List.length_map, List.length_range] at hjl
      have hs : spot = none := by simpa [Addr.add] using World.cell?_spot ((hF 0 (by omega)).1 0 _ rfl)
      subst hs
      have hi : j / 3 < len := by omega
      have q := (hF (j / 3) (by omega)).1
      have e : ∀ k, ((⟨b, off, none⟩ : Addr).add (j / 3 * 3)).add k = ⟨b, off + j / 3 * 3 + k, none⟩ := fun k => by rw [add2, add2]
      have hg : ((List.range len).map fun i => (F i).1)[j / 3]? = some (F (j / 3)).1 := by simp [hi]
      obtain ⟨p0, p1, p2⟩ := flatV_at hg
      have hcase : W.cell? ⟨b, off + j, none⟩ = some u := by
        rcases Nat.lt_or_ge (j % 3) 1 with r | r
        · have e3 : j = 3 * (j / 3) := by omega
          rw [e3] at hj; rw [p0] at hj; cases hj
          have := q 0 _ rfl; rw [e] at this; rw [show off + j = off + j / 3 * 3 + 0 by omega]; exact this
        · rcases Nat.lt_or_ge (j % 3) 2 with r2 | r2
          · have e3 : j = 3 * (j / 3) + 1 := by omega
            rw [e3] at hj; rw [p1] at hj; cases hj
            have := q 1 _ rfl; rw [e] at this; rw [show off + j = off + j / 3 * 3 + 1 by omega]; exact this
          · have e3 : j = 3 * (j / 3) + 2 := by omega
            rw [e3] at hj; rw [p2] at hj; cases hj
            have := q 2 _ rfl; rw [e] at this; rw [show off + j = off + j / 3 * 3 + 2 by omega]; exact this
      exact ⟨b, off, rfl, World.block_lt_of_cell? _ _ hcase, hcase⟩
    · simp only [List.getElem?_map, Option.map_eq_some_iff] at h1 h2
      obtain ⟨k, hk, rfl⟩ := h1
      obtain ⟨k', hk', rfl⟩ := h2
      rw [hk] at hk'; cases hk'
      obtain ⟨hlt, hk⟩ := List.getElem?_eq_some_iff.1 hk
      simp at hk hlt
      subst hk
      have q := hF i (by omega)
      exact ⟨q.2.1, sl q.2.2.1, sl q.2.2.2.1⟩
    · rw [hx.1]
      simp only [Rows.uptoBulk]
      have := bulk_sum D (fun i => wD (F i).2) (List.range len) fun i hi => (hF i (by have := List.mem_range.1 hi; omega)).2.2.2.2
      rw [List.map_map]
      have e : (wD ∘ fun i => (F i).2) = fun i => wD (F i).2 := rfl
      rw [e]
      omega
theorem dels_form {H : Type} {enc : TypeId × Value → H} {W : World} {base : Nat} {v : Value} {d : DataW H} {p : List MemPlace} (hval : Value.okWide Try.prog W .any base 25 v) (h : DataW.Trod enc Try.prog W 0 (fun _ => true) true 25 v d p) :
    ∃ ds, DArg W.heap.size v ds W ∧ (ds.map wD).sum + 1 ≤ Rows.uptoBulk d := by
  obtain ⟨a0, len0, cap0, rfl⟩ := okWide_slice Try.underlying25 hval
  obtain ⟨fuel, hf⟩ := h
  exact dels_cells hf
/-- A call that is handed in. -/
structure Op12 where
  kd : Nat
  n : Int
  v : Value
  ds : List Dl
/-- Calls that are handed in. -/
def OpL (B : Nat) (v : Value) (l : List Op12) (w : World) : Prop :=
  ∃ a cap, v = .slice a l.length cap ∧ l.length ≤ cap ∧ cap ≤ maxLen ∧ ∀ (i : Nat) (o : Op12), l[i]? = some o → ∃ g off, a = some ⟨g, off, none⟩ ∧ g < B ∧ w.cell? ⟨g, off + i * 3, none⟩ = some (.int .u8 o.kd) ∧ w.cell? ⟨g, off + i * 3 + 1, none⟩ = some (.int .i64 o.n) ∧ w.cell? ⟨g, off + i * 3 + 2, none⟩ = some o.v ∧ DArg B o.v o.ds w
theorem OpL.below {B : Nat} {v : Value} {l : List Op12} {w w1 : World} (h : OpL B v l w) (k : Below B w w1) : OpL B v l w1 := by
  obtain ⟨a, cap, rfl, h1, h2, h3⟩ := h
  refine ⟨a, cap, rfl, h1, h2, fun i o hi => ?_⟩
  obtain ⟨g, off, e, p, c0, c1, c2, q⟩ := h3 i o hi
  have e1 : ∀ j, w1.cell? ⟨g, j, none⟩ = w.cell? ⟨g, j, none⟩ := fun j => World.cell?_of_block (k.block g p)
  exact ⟨g, off, e, p, by rw [e1]; exact c0, by rw [e1]; exact c1, by rw [e1]; exact c2, q.below k⟩
theorem fI64 {a : Int} (w : (Lit.int .i64 a).wf = true) : -9223372036854775808 ≤ a ∧ a < 9223372036854775808 := by
  have h : (decide (IntKind.i64.min ≤ a) && decide (a ≤ IntKind.i64.max)) = true := w
  rw [Bool.and_eq_true, decide_eq_true_eq, decide_eq_true_eq] at h
  have e1 : IntKind.i64.min = -9223372036854775808 := by decide
  have e2 : IntKind.i64.max = 9223372036854775807 := by decide
  omega
theorem op_cells {H : Type} {enc : TypeId × Value → H} {W : World} {fuel : Nat} {cs : List Value} {x : DataW H × List MemPlace} (h : DataW.trod enc Try.prog W 0 (fun _ => true) true fuel 45 cs = some x) :
    ∃ o : Op12, cs = [.int .u8 o.kd, .int .i64 o.n, o.v] ∧ o.kd < 256 ∧ (-9223372036854775808 ≤ o.n ∧ o.n < 9223372036854775808) ∧ DArg W.heap.size o.v o.ds W ∧ (o.ds.map wD).sum ≤ Rows.uptoBulk x.1 := by
  have hu := underOp
  rw [Option.map_eq_some_iff] at hu
  obtain ⟨ty, hty, hfs⟩ := hu
  match ty, hty, hfs with
  | .struct fs, hty, hfs =>
    simp only at hfs
    obtain ⟨xs, n, _, rfl, hcl, hxl, hf⟩ := DataW.trod_struct hty h
    rw [cOp] at hcl
    match cs, hcl with
    | [k0, k1, k2], _ =>
      obtain ⟨fl⟩ := fs
      match fl, hfs with
      | [f0, f1, f2], hfs =>
        simp only [List.map_cons, List.map_nil, List.cons.injEq, Prod.mk.injEq, and_true] at hfs
        obtain ⟨⟨t0, o0⟩, ⟨t1, o1⟩, ⟨t2, o2⟩⟩ := hfs
        match xs, hxl with
        | [y0, y1, y2], _ =>
          have g0 := hf 0 f0 rfl
          have g1 := hf 1 f1 rfl
          have g2 := hf 2 f2 rfl
          rw [t0, o0, cUB] at g0
          rw [t1, o1, cInt] at g1
          rw [t2, o2, cDeltas] at g2
          obtain ⟨a0, e0, r0, w0⟩ := DataW.trod_int Try.underlying5 g0
          obtain ⟨a1, e1, r1, w1⟩ := DataW.trod_int Try.underlying3 g1
          have g2' : DataW.trod enc Try.prog W 0 (fun _ => true) true n 25 [k2] = some (y2.1, y2.2) := g2
          obtain ⟨ds, h1, h2⟩ := dels_cells g2'
          simp at e0 e1
          have u0 := fU8 w0
          refine ⟨⟨a0.toNat, a1, k2, ds⟩, ?_, by show a0.toNat < 256; omega, fI64 w1, h1, ?_⟩
          · simp only [Int.toNat_of_nonneg u0.1]
            rw [e0, e1]
          · show (ds.map wD).sum ≤ Rows.uptoBulk (DataW.agg [y0.1, y1.1, y2.1] : DataW H)
            simp only [Rows.uptoBulk, Rows.uptoBulkAll]
            omega
/-- What calls weigh. -/
def wO (l : List Op12) : Nat := (l.map fun o => (o.ds.map wD).sum).sum
theorem ops_form {H : Type} {enc : TypeId × Value → H} {W : World} {base : Nat} {v : Value} {d : DataW H} {p : List MemPlace} (hval : Value.okWide Try.prog W .any base 39 v) (h : DataW.Trod enc Try.prog W 0 (fun _ => true) true 39 v d p) :
    ∃ l : List Op12, OpL W.heap.size v l W ∧ (∀ o ∈ l, o.kd < 256 ∧ -9223372036854775808 ≤ o.n ∧ o.n < 9223372036854775808) ∧ wO l ≤ Rows.uptoBulk d ∧ l.length ≤ Rows.uptoBulk d := by
  obtain ⟨a0, len0, cap0, rfl⟩ := okWide_slice Try.underlying39 hval
  obtain ⟨fuel, hf⟩ := h
  rcases Deep.open_slice Try.underlying39 hf with ⟨hcs, hx⟩ | ⟨a, len, cap, m, n, D, Pl, hcs, _, hl, hm, hmm, hx, hcell⟩
  · simp [Value.cells] at hcs
    obtain ⟨rfl, rfl, rfl⟩ := hcs
    exact ⟨[], ⟨none, 0, rfl, by simp, by simp [maxLen], fun i t hi => by cases hi⟩, (fun o ho => by cases ho), by simp [wO], by simp⟩
  · simp [Value.cells] at hcs
    obtain ⟨rfl, rfl, rfl⟩ := hcs
    simp only [if_true] at hmm
    subst hmm
    simp only [Prod.mk.injEq] at hx
    rw [cOp] at hcell
    have each : ∀ i, i < m → ∃ o : Op12, (∀ (j : Nat) c, [Value.int .u8 o.kd, .int .i64 o.n, o.v][j]? = some c → W.cell? ((a.add (i * 3)).add j) = some c) ∧ o.kd < 256 ∧ (-9223372036854775808 ≤ o.n ∧ o.n < 9223372036854775808) ∧ DArg W.heap.size o.v o.ds W ∧ (o.ds.map wD).sum ≤ Rows.uptoBulk (D i) := fun i hi => by
      obtain ⟨cs', h1, h2⟩ := hcell i hi
      obtain ⟨o, e, r1⟩ := op_cells h2
      obtain ⟨_, hlen, hc⟩ := World.cells?_some h1
      refine ⟨o, fun j c hj => ?_, r1⟩
      rw [hc j (by have := (List.getElem?_eq_some_iff.1 hj).1; simpa using this), e]; exact hj
    haveI : Inhabited Op12 := ⟨⟨0, 0, .slice none 0 0, []⟩⟩
    obtain ⟨F, hF⟩ := Deep.choose_lt each
    refine ⟨(List.range len0).map F, ⟨some a, m, by simp, by simpa using hl, hm, fun i o hi => ?_⟩, fun o ho => ?_, ?_, ?_⟩
    · simp only [List.getElem?_map, Option.map_eq_some_iff] at hi
      obtain ⟨k, hk, rfl⟩ := hi
      obtain ⟨hlt, hk⟩ := List.getElem?_eq_some_iff.1 hk
      simp at hk hlt
      subst hk
      obtain ⟨b, off, spot⟩ := a
      have hs : spot = none := by simpa [Addr.add] using World.cell?_spot ((hF 0 (by omega)).1 0 _ rfl)
      subst hs
      have q := (hF i (by omega)).1
      have e : ∀ j, ((⟨b, off, none⟩ : Addr).add (i * 3)).add j = ⟨b, off + i * 3 + j, none⟩ := fun j => by rw [add2, add2]
      have z0 := q 0 _ rfl
      have z1 := q 1 _ rfl
      have z2 := q 2 _ rfl
      rw [e] at z0 z1 z2
      exact ⟨b, off, rfl, World.block_lt_of_cell? _ _ z0, z0, z1, z2, (hF i (by omega)).2.2.2.1⟩
    · obtain ⟨k, hk, rfl⟩ := List.mem_map.1 ho
      have hk' : k < len0 := by simpa using hk
      have q := hF k (by omega)
      exact ⟨q.2.1, q.2.2.1⟩
    · rw [hx.1]
      simp only [Rows.uptoBulk]
      have := bulk_sum D (fun i => ((F i).ds.map wD).sum) (List.range len0) fun i hi => (hF i (by have := List.mem_range.1 hi; omega)).2.2.2.2
      unfold wO
      rw [List.map_map]
      have e : ((fun o => (o.ds.map wD).sum) ∘ F) = fun i => ((F i).ds.map wD).sum := rfl
      rw [e]
      omega
    · rw [hx.1]
      simp only [Rows.uptoBulk, List.length_map, List.length_range]
      have := bulk_len ((List.range len0).map D)
      simp at this
      omega
end Go.Proofs.Ytomiblpgjkmmcaa
/- Each call on both trees. -/
namespace Go.Proofs.Ytomiblpgjkmmcaa
open Go.ChangeShapes Go.WideShapes Go.ChangeAt Go.RowKit Go.Maps Go.MapKept
set_option linter.unusedVariables false
set_option linter.unusedSimpArgs false
set_option maxRecDepth 100000
section
variable {B C r t : Nat} {m m' : Tr} {w w1 : World}
/-- Both trees tell the same. -/
structure Bt (B C t r : Nat) (m : Tr) (w : World) : Prop where
  tw : Tw B C t m w
  rw : Rw B C r m w
  inw : Inw m
  hB : B ≤ w.heap.size
  hC : C ≤ w.heap.size
  few : m.L.length ≤ 240
  nx : m.next ≤ 9000
/-- State 0 is the first. -/
def Rt0 (L : List St) : Prop := ∃ s, look L 0 = some s ∧ s.fr = -1
theorem rt0_led {L : List St} (l : List Int) (top : Int) (h : Rt0 L) : Rt0 (led L l top) := by
  obtain ⟨s, q1, q2⟩ := h
  obtain ⟨s', p1, p2⟩ := fr_led (y := top) l L 0 s q1
  exact ⟨s', p1, p2.trans q2⟩
theorem rt0_add {ds : List Dl} (I : Inv m) (h : Rt0 m.L) : Rt0 (addT m ds).L := by
  obtain ⟨s, q1, q2⟩ := h
  have hlt := I.lt
  refine ⟨_, by rw [addT_look I, if_neg (by omega), q1]; rfl, ?_⟩
  split
  · exact q2
  · exact q2
/-- What a step keeps. -/
structure Kps (m m' : Tr) : Prop where
  inw : Inw m'
  nx : m'.next = m.next
  mo : m'.most = m.most
  len : m'.L.length = m.L.length
  rt : Rt0 m.L → Rt0 m'.L
theorem Kps.refl (h : Inw m) : Kps m m := ⟨h, rfl, rfl, rfl, id⟩
theorem Kps.go (h : Inw m) {seq top : Int} {l1 l2 : List Int} (hm : Meet m.L m.now seq top l1 l2) (hs : look m.L seq ≠ none) : Kps m { m with L := led m.L l2 top, now := seq } := ⟨h.go hm hs, rfl, rfl, led_len _ _ _, rt0_led _ _⟩
/-- What a call of the document's comes to. -/
def Rst (g : FuncId) (xs : Array Value) (B C r : Nat) (m m' : Tr) (ds : List Dl) (err : Int) : Prop := ∀ w, Rw B C r m w → C ≤ w.heap.size → B ≤ w.heap.size → Calls Try.prog g xs w fun e w' => ∃ u, e = .returned (.tuple #[u, .int .i64 err]) ∧ GoneR B C r w u ds m' w'
/-- What both told. -/
def Alike (v u : Value) (w : World) : Prop := ∃ ds, Dw 0 v ds w ∧ Dw 0 u ds w
/-- What is left behind the document's call. -/
def Aft (g : FuncId) (xs : Array Value) (B C t r : Nat) (m : Tr) (w : World) (err : Int) (v : Value) (w1 : World) : Prop :=
  0 ≤ err ∧ err < 1000 ∧ (∀ b cs, Lc 45 b cs w → Lc 45 b cs w1) ∧ Calls Try.prog g xs w1 fun e w2 => ∃ u, e = .returned (.tuple #[u, .int .i64 err]) ∧ Alike v u w2 ∧ ∃ m', Kps m m' ∧ Bt B C t r m' w2 ∧ Below B w w2
theorem aft_of (h : Bt B C t r m w) {g : FuncId} {xs : Array Value} {v : Value} {ds : List Dl} {err : Int} (he : 0 ≤ err ∧ err < 1000) (q : Gone B C t w v ds m' w1) (kp : Kps m m') (hr : Rst g xs B C r m m' ds err) : Aft g xs B C t r m w err v w1 := by
  obtain ⟨q1, q2, q3⟩ := q
  have hs := q3.size
  refine ⟨he.1, he.2, fun b cs hb => hb.ff q3 (fun cur fr q => by rcases q with q | q <;> cases q), (hr w1 (h.rw.ff q3) (Nat.le_trans h.hC hs) (Nat.le_trans h.hB hs)).mono ?_⟩
  rintro e w2 ⟨u, rfl, p1, p2, p3⟩
  have hs2 := p3.size
  refine ⟨u, rfl, ⟨ds, (q1.ff p3 (tq_of (by decide) (by decide)) (tq_of (by decide) (by decide))).zero, p1.zero⟩, m', kp, ⟨q2.ffq p3, p2, kp.inw, by have := h.hB; omega, by have := h.hC; omega, by rw [kp.len]; exact h.few, by rw [kp.nx]; exact h.nx⟩, (q3.below h.hB).trans (p3.below (Nat.le_trans h.hB hs))⟩
theorem same_alike {v u : Value} (h : Alike v u w) : Calls Try.prog 20 #[v, u] w fun e w' => e = .returned (.bool true) ∧ ∃ q, w' = w.drewN q := by
  obtain ⟨ds, h1, h2⟩ := h
  exact same_eq (okRow 0 0) (okRow 0 0) h1.dr h2.dr
theorem gone_kp {v : Value} (h : Tw B C t m w) (k : Kp w w1) (hv : v = .slice none 0 0) : Gone B C t w v [] m w1 := by subst hv; exact ⟨Dx.nil _ _ _, h.kp k, Ff.kp k⟩
theorem goneR_kp {v : Value} (h : Rw B C r m w) (k : Kp w w1) (hv : v = .slice none 0 0) : GoneR B C r w v [] m w1 := by subst hv; exact ⟨Dx.nil _ _ _, h.kp k, Ff.kp k⟩
theorem undo_both (h : Bt B C t r m w) : Calls Try.prog 17 #[.pointer (some ⟨t, 0, none⟩)] w fun e w1 => ∃ v err, e = .returned (.tuple #[v, .int .u16 err]) ∧ Aft 41 #[.pointer (some ⟨r, 0, none⟩)] B C t r m w err v w1 := by
  have I := h.inw
  have F := I.inv.fam
  have hn := h.nx
  have hfw := h.few
  obtain ⟨s, hs⟩ := Option.ne_none_iff_exists'.1 I.inv.nw
  have hrg := rg_of (F.rg (by omega) I.inv.nw)
  by_cases he : s.fr = -1
  · refine (undo_end h.tw hrg hs he).mono ?_
    rintro e w' ⟨rfl, k, rfl⟩
    refine ⟨_, _, rfl, aft_of h ⟨by decide, by decide⟩ (gone_kp h.tw (kp_drewN _ _) rfl) (Kps.refl I) fun w2 h1 _ _ => ?_⟩
    refine (rundo_end h1 I.inv (by omega) hs he).mono ?_
    rintro e w' ⟨rfl, k⟩
    exact ⟨_, rfl, goneR_kp h1 k rfl⟩
  · refine (undo_any h.tw hrg hs he (F.few _ _ hs) (by decide)).mono ?_
    rintro e w' ⟨v, rfl, q⟩
    refine ⟨_, _, rfl, aft_of h ⟨by decide, by decide⟩ q ⟨I.up hs he, rfl, rfl, rfl, id⟩ fun w2 h1 _ hB => ?_⟩
    have := rundo_any h1 I.inv (by omega) hB hs he
    rw [I.same hs he] at this
    exact this
theorem redo_both (h : Bt B C t r m w) : Calls Try.prog 19 #[.pointer (some ⟨t, 0, none⟩)] w fun e w1 => ∃ v err, e = .returned (.tuple #[v, .int .u16 err]) ∧ Aft 42 #[.pointer (some ⟨r, 0, none⟩)] B C t r m w err v w1 := by
  have I := h.inw
  have F := I.inv.fam
  have hn := h.nx
  have hfw := h.few
  obtain ⟨s, hs⟩ := Option.ne_none_iff_exists'.1 I.inv.nw
  have hrg := rg_of (F.rg (by omega) I.inv.nw)
  by_cases he : s.on = -1
  · refine (redo_end h.tw hrg hs he).mono ?_
    rintro e w' ⟨rfl, k, rfl⟩
    refine ⟨_, _, rfl, aft_of h ⟨by decide, by decide⟩ (gone_kp h.tw (kp_drewN _ _) rfl) (Kps.refl I) fun w2 h1 _ _ => ?_⟩
    refine (rredo_end h1 I.inv (by omega) hs he).mono ?_
    rintro e w' ⟨rfl, k⟩
    exact ⟨_, rfl, goneR_kp h1 k rfl⟩
  · obtain ⟨s', hs', hf'⟩ := F.on _ _ hs he
    refine (redo_any h.tw hrg hs he (rg_of (F.rg (by omega) (by rw [hs']; simp))) hs' (F.few _ _ hs') (by decide)).mono ?_
    rintro e w' ⟨v, rfl, q⟩
    refine ⟨_, _, rfl, aft_of h ⟨by decide, by decide⟩ q ⟨I.down hs he, rfl, rfl, rfl, id⟩ fun w2 h1 _ hB => ?_⟩
    exact rredo_any h1 I.inv (by omega) hB hs he hs'
theorem went_aft (h : Bt B C t r m w) {g : FuncId} {xs : Array Value} {v : Value} {seq : Int} (hs : look m.L seq ≠ none) (q : Went B C t w v m seq w1)
    (hr : ∀ w, Rw B C r m w → C ≤ w.heap.size → B ≤ w.heap.size → Calls Try.prog g xs w fun e w' => ∃ u, e = .returned (.tuple #[u, .int .i64 0]) ∧ WentR B C r w u m seq w') : Aft g xs B C t r m w 0 v w1 := by
  obtain ⟨top, l1, l2, hm, q⟩ := q
  refine aft_of h ⟨by decide, by decide⟩ q (Kps.go h.inw hm hs) fun w2 h1 hC hB => ?_
  refine (hr w2 h1 hC hB).mono ?_
  rintro e w' ⟨u, rfl, top', l1', l2', hm', p⟩
  obtain ⟨rfl, rfl, rfl⟩ := h.inw.inv.fam.meet_one hm hm'
  exact ⟨u, rfl, p⟩
theorem go_both (h : Bt B C t r m w) {seq : Int} (hr : Rg seq) : Calls Try.prog 18 #[.pointer (some ⟨t, 0, none⟩), .int .i64 seq] w fun e w1 => ∃ v err, e = .returned (.tuple #[v, .int .u16 err]) ∧ Aft 43 #[.pointer (some ⟨r, 0, none⟩), .int .i64 seq] B C t r m w err v w1 := by
  have I := h.inw
  have F := I.inv.fam
  have hn := h.nx
  have hfw := h.few
  by_cases hs : look m.L seq = none
  · refine (go_none h.tw hr hs).mono ?_
    rintro e w' ⟨rfl, rfl⟩
    refine ⟨_, _, rfl, aft_of h ⟨by decide, by decide⟩ (gone_kp h.tw (Below.refl _ _) rfl) (Kps.refl I) fun w2 h1 _ _ => ?_⟩
    refine (rgo_none h1 (by omega) I.inv hs).mono ?_
    rintro e w' ⟨rfl, rfl⟩
    exact ⟨_, rfl, goneR_kp h1 (Below.refl _ _) rfl⟩
  · refine (go_any h.tw h.hC F (by omega) I.inv.nw hs).mono ?_
    rintro e w' ⟨v, rfl, q⟩
    exact ⟨_, _, rfl, went_aft h hs q fun w2 h1 hC hB => rgo_any h1 hC hB I (by omega) (by omega) hs⟩
theorem led_aft (h : Bt B C t r m w) {g : FuncId} {xs : Array Value} {v : Value} {err seq : Int} (he : 0 ≤ err ∧ err < 1000) (hs : err = 0 → look m.L seq ≠ none) (q : Led B C t w m err seq v w1)
    (hr : ∀ w, Rw B C r m w → C ≤ w.heap.size → B ≤ w.heap.size → Calls Try.prog g xs w fun e w' => ∃ u, e = .returned (.tuple #[u, .int .i64 err]) ∧ LedR B C r w m err seq u w') : Aft g xs B C t r m w err v w1 := by
  rcases q with ⟨h1, h2, h3⟩ | ⟨rfl, q⟩
  · refine aft_of h he (gone_kp h.tw h3 h2) (Kps.refl h.inw) fun w2 j1 hC hB => ?_
    refine (hr w2 j1 hC hB).mono ?_
    rintro e w' ⟨u, rfl, ⟨_, p1, p2⟩ | ⟨p, _⟩⟩
    · exact ⟨u, rfl, goneR_kp j1 p2 p1⟩
    · exact absurd p h1
  · refine went_aft h (hs rfl) q fun w2 j1 hC hB => ?_
    refine (hr w2 j1 hC hB).mono ?_
    rintro e w' ⟨u, rfl, ⟨p, _⟩ | ⟨_, p⟩⟩
    · exact absurd rfl p
    · exact ⟨u, rfl, p⟩
theorem later_both (h : Bt B C t r m w) (n : Int) : Calls Try.prog 15 #[.pointer (some ⟨t, 0, none⟩), .int .i64 n] w fun e w1 => ∃ v err, e = .returned (.tuple #[v, .int .u16 err]) ∧ Aft 45 #[.pointer (some ⟨r, 0, none⟩), .int .i64 n] B C t r m w err v w1 := by
  have I := h.inw
  have hn := h.nx
  have hfw := h.few
  obtain ⟨k, hk⟩ := idx_of I.inv.nw
  have hkl := (List.getElem?_eq_some_iff.1 hk).1
  rw [List.length_map] at hkl
  obtain ⟨err, seq, he, hs, hc⟩ : ∃ err seq : Int, (0 ≤ err ∧ err < 1000) ∧ (err = 0 → look m.L seq ≠ none) ∧ ((n < 1 ∧ err = 1) ∨ (1 ≤ n ∧ k + 1 = m.L.length ∧ err = 121) ∨ (1 ≤ n ∧ err = 0 ∧ ∃ j : Nat, min n ((m.L.length - (k + 1) : Nat) : Int) = (j : Int) + 1 ∧ (m.L.map St.seq)[k + 1 + j]? = some seq)) := by
    by_cases h1 : n < 1
    · exact ⟨1, 0, by decide, fun q => absurd q (by decide), .inl ⟨h1, rfl⟩⟩
    · by_cases h2 : k + 1 = m.L.length
      · exact ⟨121, 0, by decide, fun q => absurd q (by decide), .inr (.inl ⟨by omega, h2, rfl⟩)⟩
      · obtain ⟨j, hj⟩ : ∃ j : Nat, min n ((m.L.length - (k + 1) : Nat) : Int) = (j : Int) + 1 := ⟨(min n ((m.L.length - (k + 1) : Nat) : Int) - 1).toNat, by omega⟩
        have hlt : k + 1 + j < (m.L.map St.seq).length := by rw [List.length_map]; omega
        exact ⟨0, (m.L.map St.seq)[k + 1 + j], by decide, fun _ => look_ne.2 (List.getElem_mem hlt), .inr (.inr ⟨by omega, rfl, j, hj, List.getElem?_eq_getElem hlt⟩)⟩
  refine (later_any h.tw h.hC I.inv (by omega) (by omega) hk hc).mono ?_
  rintro e w' ⟨v, rfl, q⟩
  exact ⟨_, _, rfl, led_aft h he hs q fun w2 h1 hC hB => rlater_any h1 hC hB I (by omega) (by omega) hk hc⟩
theorem earlier_both (h : Bt B C t r m w) (n : Int) : Calls Try.prog 13 #[.pointer (some ⟨t, 0, none⟩), .int .i64 n] w fun e w1 => ∃ v err, e = .returned (.tuple #[v, .int .u16 err]) ∧ Aft 44 #[.pointer (some ⟨r, 0, none⟩), .int .i64 n] B C t r m w err v w1 := by
  have I := h.inw
  have hn := h.nx
  have hfw := h.few
  obtain ⟨k, hk⟩ := idx_of I.inv.nw
  have hkl := (List.getElem?_eq_some_iff.1 hk).1
  rw [List.length_map] at hkl
  have hrev : ∀ i : Nat, i < m.L.length → (m.L.map St.seq).reverse[m.L.length - 1 - i]? = (m.L.map St.seq)[i]? := fun i hi => by
    rw [List.getElem?_reverse (by rw [List.length_map]; omega), List.length_map]
    congr 1; omega
  have hk' : (m.L.map St.seq).reverse[m.L.length - 1 - k]? = some m.now := by rw [hrev k hkl, hk]
  obtain ⟨err, seq, he, hs, hc⟩ : ∃ err seq : Int, (0 ≤ err ∧ err < 1000) ∧ (err = 0 → look m.L seq ≠ none) ∧ ((n < 1 ∧ err = 1) ∨ (1 ≤ n ∧ k = 0 ∧ err = 121) ∨ (1 ≤ n ∧ err = 0 ∧ ∃ j : Nat, min n (k : Int) = (j : Int) + 1 ∧ (m.L.map St.seq)[k - (j + 1)]? = some seq)) := by
    by_cases h1 : n < 1
    · exact ⟨1, 0, by decide, fun q => absurd q (by decide), .inl ⟨h1, rfl⟩⟩
    · by_cases h2 : k = 0
      · exact ⟨121, 0, by decide, fun q => absurd q (by decide), .inr (.inl ⟨by omega, h2, rfl⟩)⟩
      · obtain ⟨j, hj⟩ : ∃ j : Nat, min n (k : Int) = (j : Int) + 1 := ⟨(min n (k : Int) - 1).toNat, by omega⟩
        have hlt : k - (j + 1) < (m.L.map St.seq).length := by rw [List.length_map]; omega
        exact ⟨0, (m.L.map St.seq)[k - (j + 1)], by decide, fun _ => look_ne.2 (List.getElem_mem hlt), .inr (.inr ⟨by omega, rfl, j, hj, List.getElem?_eq_getElem hlt⟩)⟩
  have hc' : (n < 1 ∧ err = 1) ∨ (1 ≤ n ∧ m.L.length - 1 - k + 1 = m.L.length ∧ err = 121) ∨ (1 ≤ n ∧ err = 0 ∧ ∃ j : Nat, min n ((m.L.length - (m.L.length - 1 - k + 1) : Nat) : Int) = (j : Int) + 1 ∧ (m.L.map St.seq).reverse[m.L.length - 1 - k + 1 + j]? = some seq) := by
    rcases hc with q | ⟨q1, q2, q3⟩ | ⟨q1, q2, j, q3, q4⟩
    · exact .inl q
    · exact .inr (.inl ⟨q1, by omega, q3⟩)
    · refine .inr (.inr ⟨q1, q2, j, ?_, ?_⟩)
      · rw [show m.L.length - (m.L.length - 1 - k + 1) = k by omega]; exact q3
      · rw [← q4, ← hrev (k - (j + 1)) (by omega)]
        congr 1; omega
  refine (earlier_any h.tw h.hC I.inv (by omega) (by omega) hk' hc').mono ?_
  rintro e w' ⟨v, rfl, q⟩
  exact ⟨_, _, rfl, led_aft h he hs q fun w2 h1 hC hB => rearlier_any h1 hC hB I (by omega) (by omega) hk hc⟩
theorem DArg.ff {T : Obj → Prop} {v : Value} {ds : List Dl} (h : DArg B v ds w) (k : Ff T B w w1) : DArg B v ds w1 := by
  obtain ⟨a, cap, cs, rfl, h1, h2, h3, h4, h5⟩ := h
  refine ⟨a, cap, cs, rfl, h1, h2, h3, fun j u hj => ?_, h5.imp fun v ls q => q.fr k fun g hg q => by obtain ⟨q, _⟩ := q; omega⟩
  obtain ⟨g, o, e, p, c⟩ := h4 j u hj
  exact ⟨g, o, e, p, by rw [World.cell?_of_block (k.block g (World.block_lt_of_cell? _ _ c) (fun q => by obtain ⟨q, _⟩ := q; omega))]; exact c⟩
/-- What is left behind the document's Add. -/
def AftA (B t r : Nat) (m : Tr) (dv : Value) (ds : List Dl) (w w1 : World) : Prop :=
  (∀ b cs, Lc 45 b cs w → Lc 45 b cs w1) ∧ ∀ z, Kp w1 z → Calls Try.prog 46 #[.pointer (some ⟨r, 0, none⟩), dv] z fun e w2 => e = .returned (.int .i64 m.next) ∧ Bt B w2.heap.size t r (addT m ds) w2 ∧ Below B w w2
theorem add_both (h : Bt B C t r m w) (hl : m.L.length ≤ 239) (hn : m.next ≤ 8999) (hm : (m.L.length : Int) + 1 ≤ m.most) {dv : Value} {ds : List Dl} (hd : DArg B dv ds w) (hf : Few 2000 ds) :
    Calls Try.prog 12 #[.pointer (some ⟨t, 0, none⟩), dv] w fun e w1 => e = .returned (.int .i64 m.next) ∧ AftA B t r m dv ds w w1 := by
  have I := h.inw
  refine (add_few h.tw I.inv.fam (by omega) I.inv.nodup I.inv.nw hm h.hB (okSl B) hd hf (by decide)).mono ?_
  rintro e w1 ⟨rfl, q1, q2⟩
  refine ⟨rfl, fun b cs hb => hb.ff q2 (fun cur fr q => by rcases q with q | q <;> cases q), fun z kz => ?_⟩
  have hs := q2.size
  have hz := kz.size
  have hB1 : B ≤ w1.heap.size := Nat.le_trans h.hB hs
  refine (radd_few ((h.rw.ff q2).kp kz) I.inv (by omega) (by omega) hm (Nat.le_trans hB1 hz) (okSl B) ((hd.below (q2.below h.hB)).below (kz.mono hB1)) ?_ ?_ hf (by decide)).mono ?_
  · intro v ls w w' hx k
    exact hx.fr k fun g hg q => by obtain ⟨q, _⟩ := q; omega
  · intro w w' k hx
    exact DArg.ff hx k
  rintro e w2 ⟨rfl, p1, p2⟩
  have hs2 := p2.size
  exact ⟨rfl, ⟨((q1.kp kz).ffq p2).up (by omega), p1, I.add hf, by omega, Nat.le_refl _, by rw [addT_len]; omega, by show m.next + 1 ≤ 9000; omega⟩, ((q2.below h.hB).trans (kz.mono hB1)).trans (p2.below (Nat.le_trans hB1 hz))⟩
end
end Go.Proofs.Ytomiblpgjkmmcaa
/- A call on both. -/
namespace Go.Proofs.Ytomiblpgjkmmcaa
open Go.ChangeShapes Go.WideShapes Go.ChangeAt Go.RowKit Go.Maps Go.MapKept
set_option linter.unusedVariables false
set_option linter.unusedSimpArgs false
set_option maxRecDepth 100000
section
variable {B C r t : Nat} {m m' : Tr} {w w1 : World}
/-- What a call leaves. -/
structure Stp (m m' : Tr) : Prop where
  nx : m'.next ≤ m.next + 1
  mo : m'.most = m.most
  len : m'.L.length ≤ m.L.length + 1
  rt : Rt0 m.L → Rt0 m'.L
theorem Kps.stp (h : Kps m m') : Stp m m' := ⟨by rw [h.nx]; omega, h.mo, by rw [h.len]; omega, h.rt⟩
theorem Bt.kp (h : Bt B C t r m w) (k : Kp w w1) : Bt B C t r m w1 := ⟨h.tw.kp k, h.rw.kp k, h.inw, Nat.le_trans h.hB k.size, Nat.le_trans h.hC k.size, h.few, h.nx⟩
def Dne (B t r : Nat) (m : Tr) (w w' : World) : Prop := ∃ C m', Bt B C t r m' w' ∧ Stp m m' ∧ Below B w w'
set_option maxHeartbeats 16000000 in
theorem does_any (h : Bt B C t r m w) (hl : m.L.length ≤ 199) (hn : m.next ≤ 8999) (hm : (m.L.length : Int) + 1 ≤ m.most) {kd n : Int} (hk0 : 0 ≤ kd) (hk1 : kd < 256) (hr : Rg n) {dv : Value} {ds : List Dl} (hd : DArg B dv ds w) (hf : Few 2000 ds) :
    Calls Try.prog 23 #[.pointer (some ⟨t, 0, none⟩), .pointer (some ⟨r, 0, none⟩), .agg #[.int .u8 kd, .int .i64 n, dv]] w fun e w' => e = .returned (.bool true) ∧ Dne B t r m w w' := by
  obtain ⟨W, hW⟩ : ∃ W, W = w.alloc (.cells #[.int .u8 kd, .int .i64 n, dv] 45) := ⟨_, rfl⟩
  have kW : Kp w W := by rw [hW]; exact kp_alloc _ _
  have lW : Lc 45 w.heap.size [.int .u8 kd, .int .i64 n, dv] W := by rw [hW]; exact Lc.new _ _ _
  have HB : Hid (Bt B C t r m W) := h.kp kW
  have HL : Hid (Lc 45 w.heap.size [.int .u8 kd, .int .i64 n, dv] W ∧ Kp w W ∧ DArg B dv ds W ∧ Few 2000 ds ∧ m.L.length ≤ 199 ∧ m.next ≤ 8999 ∧ (m.L.length : Int) + 1 ≤ m.most ∧ B ≤ w.heap.size) := ⟨lW, kW, hd.below (kW.mono h.hB), hf, hl, hn, hm, h.hB⟩
  have HW : Hid (W = w.alloc (.cells #[.int .u8 kd, .int .i64 n, dv] 45)) := hW
  have b0 := lW.at (j := 0) rfl
  have b1 := lW.at (j := 1) rfl
  have b2 := lW.at (j := 2) rfl
  obtain ⟨da, dn, dc, rfl⟩ : ∃ a n c, dv = .slice a n c := by obtain ⟨a, c, q, _⟩ := hd.form; exact ⟨a, _, c, q⟩
  clear h hl hn hm hd hf kW lW hW
  go_enter Try.func23, Try.ntmps23
  go_upto_region 1 with fail
  rw [← HW.out]
  clear HW
  rcases (by omega : kd % 9 = 3 ∨ kd % 9 = 4 ∨ kd % 9 = 5 ∨ kd % 9 = 6 ∨ kd % 9 = 7 ∨ kd % 9 = 8 ∨ kd % 9 < 3) with q | q | q | q | q | q | q
  · have d3 : (kd % 9 == 3) = true := by rw [q]; rfl
    have H1 : Hid _ := undo_both HB.out
    clear HB q
    go_wp2_with fail
    refine Calls.mono H1.out ?_
    rintro e w1 ⟨v1, err, rfl, he0, he1, hbx, hc⟩
    have HC : Hid _ := hc
    have lx := hbx _ _ HL.out.1
    have bb0 := lx.at (j := 0) rfl
    have bb1 := lx.at (j := 1) rfl
    have dE : (err == err) = true := beq_self_eq_true _
    clear H1 hc hbx lx
    go_wp2_with fail
    refine Calls.mono HC.out ?_
    rintro e w2 ⟨u1, rfl, al, m1, kps, bt, bl⟩
    have HS : Hid _ := same_alike al
    have H2 : Hid (Bt B C t r m1 w2 ∧ Kps m m1 ∧ Below B W w2) := ⟨bt, kps, bl⟩
    clear HC al bt kps bl
    go_wp2_with fail
    refine Calls.mono HS.out ?_
    rintro e w3 ⟨rfl, q3, rfl⟩
    clear HS
    go_wp2_with fail
    go_ret
    exact ⟨rfl, C, m1, H2.out.1.kp (kp_drewN _ _), H2.out.2.1.stp, ((HL.out.2.1.mono HL.out.2.2.2.2.2.2.2).trans H2.out.2.2).trans ((kp_drewN _ _).mono H2.out.1.hB)⟩
  · have d3 : (kd % 9 == 3) = false := by rw [q]; rfl
    have d4 : (kd % 9 == 4) = true := by rw [q]; rfl
    have H1 : Hid _ := redo_both HB.out
    clear HB q
    go_wp2_with fail
    refine Calls.mono H1.out ?_
    rintro e w1 ⟨v1, err, rfl, he0, he1, hbx, hc⟩
    have HC : Hid _ := hc
    have lx := hbx _ _ HL.out.1
    have bb0 := lx.at (j := 0) rfl
    have bb1 := lx.at (j := 1) rfl
    have dE : (err == err) = true := beq_self_eq_true _
    clear H1 hc hbx lx
    go_wp2_with fail
    refine Calls.mono HC.out ?_
    rintro e w2 ⟨u1, rfl, al, m1, kps, bt, bl⟩
    have HS : Hid _ := same_alike al
    have H2 : Hid (Bt B C t r m1 w2 ∧ Kps m m1 ∧ Below B W w2) := ⟨bt, kps, bl⟩
    clear HC al bt kps bl
    go_wp2_with fail
    refine Calls.mono HS.out ?_
    rintro e w3 ⟨rfl, q3, rfl⟩
    clear HS
    go_wp2_with fail
    go_ret
    exact ⟨rfl, C, m1, H2.out.1.kp (kp_drewN _ _), H2.out.2.1.stp, ((HL.out.2.1.mono HL.out.2.2.2.2.2.2.2).trans H2.out.2.2).trans ((kp_drewN _ _).mono H2.out.1.hB)⟩
  · have d3 : (kd % 9 == 3) = false := by rw [q]; rfl
    have d4 : (kd % 9 == 4) = false := by rw [q]; rfl
    have d5 : (kd % 9 == 5) = true := by rw [q]; rfl
    have H1 : Hid _ := go_both HB.out hr
    clear HB q
    go_wp2_with fail
    refine Calls.mono H1.out ?_
    rintro e w1 ⟨v1, err, rfl, he0, he1, hbx, hc⟩
    have HC : Hid _ := hc
    have lx := hbx _ _ HL.out.1
    have bb0 := lx.at (j := 0) rfl
    have bb1 := lx.at (j := 1) rfl
    have dE : (err == err) = true := beq_self_eq_true _
    clear H1 hc hbx lx
    go_wp2_with fail
    refine Calls.mono HC.out ?_
    rintro e w2 ⟨u1, rfl, al, m1, kps, bt, bl⟩
    have HS : Hid _ := same_alike al
    have H2 : Hid (Bt B C t r m1 w2 ∧ Kps m m1 ∧ Below B W w2) := ⟨bt, kps, bl⟩
    clear HC al bt kps bl
    go_wp2_with fail
    refine Calls.mono HS.out ?_
    rintro e w3 ⟨rfl, q3, rfl⟩
    clear HS
    go_wp2_with fail
    go_ret
    exact ⟨rfl, C, m1, H2.out.1.kp (kp_drewN _ _), H2.out.2.1.stp, ((HL.out.2.1.mono HL.out.2.2.2.2.2.2.2).trans H2.out.2.2).trans ((kp_drewN _ _).mono H2.out.1.hB)⟩
  · have d3 : (kd % 9 == 3) = false := by rw [q]; rfl
    have d4 : (kd % 9 == 4) = false := by rw [q]; rfl
    have d5 : (kd % 9 == 5) = false := by rw [q]; rfl
    have d6 : (kd % 9 == 6) = true := by rw [q]; rfl
    have H1 : Hid _ := earlier_both HB.out n
    clear HB q
    go_wp2_with fail
    refine Calls.mono H1.out ?_
    rintro e w1 ⟨v1, err, rfl, he0, he1, hbx, hc⟩
    have HC : Hid _ := hc
    have lx := hbx _ _ HL.out.1
    have bb0 := lx.at (j := 0) rfl
    have bb1 := lx.at (j := 1) rfl
    have dE : (err == err) = true := beq_self_eq_true _
    clear H1 hc hbx lx
    go_wp2_with fail
    refine Calls.mono HC.out ?_
    rintro e w2 ⟨u1, rfl, al, m1, kps, bt, bl⟩
    have HS : Hid _ := same_alike al
    have H2 : Hid (Bt B C t r m1 w2 ∧ Kps m m1 ∧ Below B W w2) := ⟨bt, kps, bl⟩
    clear HC al bt kps bl
    go_wp2_with fail
    refine Calls.mono HS.out ?_
    rintro e w3 ⟨rfl, q3, rfl⟩
    clear HS
    go_wp2_with fail
    go_ret
    exact ⟨rfl, C, m1, H2.out.1.kp (kp_drewN _ _), H2.out.2.1.stp, ((HL.out.2.1.mono HL.out.2.2.2.2.2.2.2).trans H2.out.2.2).trans ((kp_drewN _ _).mono H2.out.1.hB)⟩
  · have d3 : (kd % 9 == 3) = false := by rw [q]; rfl
    have d4 : (kd % 9 == 4) = false := by rw [q]; rfl
    have d5 : (kd % 9 == 5) = false := by rw [q]; rfl
    have d6 : (kd % 9 == 6) = false := by rw [q]; rfl
    have d7 : (kd % 9 == 7) = true := by rw [q]; rfl
    have H1 : Hid _ := later_both HB.out n
    clear HB q
    go_wp2_with fail
    refine Calls.mono H1.out ?_
    rintro e w1 ⟨v1, err, rfl, he0, he1, hbx, hc⟩
    have HC : Hid _ := hc
    have lx := hbx _ _ HL.out.1
    have bb0 := lx.at (j := 0) rfl
    have bb1 := lx.at (j := 1) rfl
    have dE : (err == err) = true := beq_self_eq_true _
    clear H1 hc hbx lx
    go_wp2_with fail
    refine Calls.mono HC.out ?_
    rintro e w2 ⟨u1, rfl, al, m1, kps, bt, bl⟩
    have HS : Hid _ := same_alike al
    have H2 : Hid (Bt B C t r m1 w2 ∧ Kps m m1 ∧ Below B W w2) := ⟨bt, kps, bl⟩
    clear HC al bt kps bl
    go_wp2_with fail
    refine Calls.mono HS.out ?_
    rintro e w3 ⟨rfl, q3, rfl⟩
    clear HS
    go_wp2_with fail
    go_ret
    exact ⟨rfl, C, m1, H2.out.1.kp (kp_drewN _ _), H2.out.2.1.stp, ((HL.out.2.1.mono HL.out.2.2.2.2.2.2.2).trans H2.out.2.2).trans ((kp_drewN _ _).mono H2.out.1.hB)⟩
  · have d3 : (kd % 9 == 3) = false := by rw [q]; rfl
    have d4 : (kd % 9 == 4) = false := by rw [q]; rfl
    have d5 : (kd % 9 == 5) = false := by rw [q]; rfl
    have d6 : (kd % 9 == 6) = false := by rw [q]; rfl
    have d7 : (kd % 9 == 7) = false := by rw [q]; rfl
    have d8 : (kd % 9 == 8) = true := by rw [q]; rfl
    have hx0 : 0 ≤ m.next := by have := HB.out.inw.inv.lt; omega
    have hx1 : m.next ≤ 8999 := HL.out.2.2.2.2.2.1
    have cN : W.cell? ⟨r, 3, none⟩ = some (.int .i64 m.next) := by obtain ⟨v, vs, h⟩ := HB.out.rw; exact h.box.at (j := 3) rfl
    clear q
    go_upto_region 22 with fail
    go_quiet (fail)
    have hkp := kp_drewN W nq
    generalize W.drewN nq = W1 at hkp ⊢
    generalize hx : max n 0 % (m.next + 1) = x
    have hxr : Rg x := by
      have h1 := Int.emod_nonneg (max n 0) (b := m.next + 1) (by omega)
      have h2 := Int.emod_lt_of_pos (max n 0) (b := m.next + 1) (by omega)
      exact rg_of ⟨by omega, by omega⟩
    have H1 : Hid _ := go_both (HB.out.kp hkp) hxr
    have HL1 : Hid (Lc 45 w.heap.size [.int .u8 kd, .int .i64 n, .slice da dn dc] W1 ∧ Kp w W1 ∧ B ≤ w.heap.size) := ⟨HL.out.1.kp hkp, kp_trans HL.out.2.1 hkp, HL.out.2.2.2.2.2.2.2⟩
    clear HB HL hx hxr hkp b0 b1 b2 cN
    go_wp2_with fail
    refine Calls.mono H1.out ?_
    rintro e w1 ⟨v1, err, rfl, he0, he1, hbx, hc⟩
    have HC : Hid _ := hc
    have lx := hbx _ _ HL1.out.1
    have bb0 := lx.at (j := 0) rfl
    have bb1 := lx.at (j := 1) rfl
    have dE : (err == err) = true := beq_self_eq_true _
    clear H1 hc hbx lx
    go_wp2_with fail
    refine Calls.mono HC.out ?_
    rintro e w2 ⟨u1, rfl, al, m1, kps, bt, bl⟩
    have HS : Hid _ := same_alike al
    have H2 : Hid (Bt B C t r m1 w2 ∧ Kps m m1 ∧ Below B W1 w2) := ⟨bt, kps, bl⟩
    clear HC al bt kps bl
    go_wp2_with fail
    refine Calls.mono HS.out ?_
    rintro e w3 ⟨rfl, q3, rfl⟩
    clear HS
    go_wp2_with fail
    go_ret
    exact ⟨rfl, C, m1, H2.out.1.kp (kp_drewN _ _), H2.out.2.1.stp, ((HL1.out.2.1.mono HL1.out.2.2).trans H2.out.2.2).trans ((kp_drewN _ _).mono H2.out.1.hB)⟩
  · have d3 : (kd % 9 == 3) = false := beq_eq_false_iff_ne.2 (by omega)
    have d4 : (kd % 9 == 4) = false := beq_eq_false_iff_ne.2 (by omega)
    have d5 : (kd % 9 == 5) = false := beq_eq_false_iff_ne.2 (by omega)
    have d6 : (kd % 9 == 6) = false := beq_eq_false_iff_ne.2 (by omega)
    have d7 : (kd % 9 == 7) = false := beq_eq_false_iff_ne.2 (by omega)
    have d8 : (kd % 9 == 8) = false := beq_eq_false_iff_ne.2 (by omega)
    have H1 : Hid _ := add_both (HB.out.kp (kp_drew W)) (by have := HL.out.2.2.2.2.1; omega) HL.out.2.2.2.2.2.1 HL.out.2.2.2.2.2.2.1 (HL.out.2.2.1.below ((kp_drew W).mono HB.out.hB)) HL.out.2.2.2.1
    have HK : Hid (Kp w W.drew ∧ B ≤ w.heap.size ∧ Lc 45 w.heap.size [.int .u8 kd, .int .i64 n, .slice da dn dc] W.drew ∧ Few 2000 ds ∧ Inv m) := ⟨kp_trans HL.out.2.1 (kp_drew W), HL.out.2.2.2.2.2.2.2, HL.out.1.kp (kp_drew W), HL.out.2.2.2.1, HB.out.inw.inv⟩
    have dN : (m.next == m.next) = true := beq_self_eq_true _
    clear q HB
    go_upto_region 5 with fail
    go_region_with (first | (go_at_call 12; refine Calls.mono H1.out ?_; rintro e w1 ⟨rfl, hbx, hc⟩; have bb2 := (hbx _ _ HK.out.2.2.1).at (j := 2) rfl; have HC : Hid _ := hc; clear hbx hc) | (go_at_call 46; refine Calls.mono (HC.out _ (Below.refl _ _)) ?_; rintro e w2 ⟨rfl, bt, bl⟩; have H2 : Hid _ := And.intro bt bl; clear bt bl HC) | (go_at_call 46; refine Calls.mono (HC.out _ (kp_drew _)) ?_; rintro e w2 ⟨rfl, bt, bl⟩; have H2 : Hid _ := And.intro bt bl; clear bt bl HC))
    all_goals
      go_wp2_with fail
      go_ret
      exact ⟨rfl, _, _, H2.out.1, ⟨Int.le_refl _, rfl, by rw [addT_len]; exact Nat.le_refl _, rt0_add HK.out.2.2.2.2⟩, (HK.out.1.mono HK.out.2.1).trans H2.out.2⟩
end
end Go.Proofs.Ytomiblpgjkmmcaa
/- heavy. -/
namespace Go.Proofs.Ytomiblpgjkmmcaa
open Go.ChangeShapes Go.WideShapes Go.ChangeAt Go.RowKit
set_option linter.unusedVariables false
set_option linter.unusedSimpArgs false
set_option maxRecDepth 100000
/-- Calls that can be read. -/
def OpQ (v : Value) (l : List Op12) (w : World) : Prop :=
  ∃ a cap, v = .slice a l.length cap ∧ l.length ≤ cap ∧ cap ≤ maxLen ∧ ∀ (i : Nat) (o : Op12), l[i]? = some o → ∃ g off, a = some ⟨g, off, none⟩ ∧ w.cell? ⟨g, off + i * 3 + 2, none⟩ = some o.v ∧ ∃ D, DArg D o.v o.ds w
theorem OpL.q {B : Nat} {v : Value} {l : List Op12} {w : World} (h : OpL B v l w) : OpQ v l w := by
  obtain ⟨a, cap, rfl, h1, h2, h3⟩ := h
  refine ⟨a, cap, rfl, h1, h2, fun i o hi => ?_⟩
  obtain ⟨g, off, e, _, _, _, c, d⟩ := h3 i o hi
  exact ⟨g, off, e, c, B, d⟩
def hvO (l : List Op12) : Bool := decide (120 < l.length) || decide (2000 < wO l)
def wE (ds : List Dl) : Nat := (ds.map fun d => d.old.length + d.nw.length).sum
theorem wD_wE (ds : List Dl) : (ds.map wD).sum = ds.length + wE ds := by
  induction ds with
  | nil => rfl
  | cons d r ih => simp only [List.map_cons, List.sum_cons, List.length_cons, wE, wD] at *; omega
theorem wE_take {ds : List Dl} {k : Nat} {d : Dl} (h : ds[k]? = some d) : wE (ds.take (k + 1)) = wE (ds.take k) + (d.old.length + d.nw.length) := by
  rw [take_snoc ds h]; simp [wE]
theorem wE_app (a b : List Dl) : wE (a ++ b) = wE a + wE b := by unfold wE; rw [List.map_append, List.sum_append]
theorem wE_le (ds : List Dl) (k : Nat) : wE (ds.take k) ≤ wE ds := by
  have h := wE_app (ds.take k) (ds.drop k)
  rw [List.take_append_drop] at h
  omega
theorem wO_take {l : List Op12} {i : Nat} {o : Op12} (h : l[i]? = some o) : wO (l.take (i + 1)) = wO (l.take i) + (o.ds.length + wE o.ds) := by
  rw [take_snoc l h, ← wD_wE]; simp [wO]
theorem wO_app (a b : List Op12) : wO (a ++ b) = wO a + wO b := by unfold wO; rw [List.map_append, List.sum_append]
theorem wO_le (l : List Op12) (k : Nat) : wO (l.take k) ≤ wO l := by
  have h := wO_app (l.take k) (l.drop k)
  rw [List.take_append_drop] at h
  omega
set_option maxHeartbeats 8000000 in
theorem heavy_any {v : Value} {l : List Op12} {w : World} (h : OpQ v l w) (hb : wO l ≤ 1000000000) :
    Calls Try.prog 21 #[v] w fun e w' => e = .returned (.bool (hvO l)) ∧ ∃ k, w' = w.drewN k := by
  obtain ⟨a, cap, rfl, h1, h2, h3⟩ := h
  obtain ⟨N, hN⟩ : ∃ N, l.length = N := ⟨_, rfl⟩
  have HL : Hid (l.length = N) := hN
  have HH : Hid (∀ (i : Nat) (o : Op12), l[i]? = some o → ∃ g off, a = some ⟨g, off, none⟩ ∧ w.cell? ⟨g, off + i * 3 + 2, none⟩ = some o.v ∧ ∃ D, DArg D o.v o.ds w) := h3
  have HB : Hid (wO l ≤ 1000000000) := hb
  rw [hN] at h1 ⊢
  unfold maxLen at h2
  have hN9 : N ≤ 9223372036854775807 := by omega
  clear h3 hN hb h1 h2
  by_cases q : 120 < N
  · have d1 : decide ((N : Int) > 120) = true := decide_eq_true (by omega)
    have d2 : decide ((120 : Int) < (N : Int)) = true := decide_eq_true (by omega)
    have HE : Hid (hvO l = true) := by show hvO l = true; unfold hvO; rw [HL.out, decide_eq_true q]; rfl
    go_enter Try.func21, Try.ntmps21
    go_wp2_with fail
    go_ret
    exact ⟨by rw [HE.out]; rfl, 0, rfl⟩
  · have d1 : decide ((N : Int) > 120) = false := decide_eq_false (by omega)
    have d2 : decide ((120 : Int) < (N : Int)) = false := decide_eq_false (by omega)
    have HE : Hid (hvO l = decide (2000 < wO l)) := by show hvO l = _; unfold hvO; rw [HL.out, decide_eq_false q, Bool.false_or]
    go_enter Try.func21, Try.ntmps21
    go_wp2_with fail
    go_loopw [3, 4, 5] (fun v3 v4 _ wr => ∃ (i m k : Nat), i ≤ N ∧ v4 = .int .i64 i ∧ v3 = .int .i64 m ∧ m ≤ 1000000000 ∧ wr = w.drewN k ∧ Hid (wO (l.take i) = m)) (fun _ v4 _ _ => N - (intOf v4).toNat)
    case atStart => exact ⟨0, 0, 0, Nat.zero_le _, rfl, rfl, by omega, rfl, rfl⟩
    case round =>
      obtain ⟨i, m, k, hi, rfl, rfl, hm, rfl, HM⟩ := hrel
      by_cases p : i < N
      · have d3 : decide ((i : Int) < (N : Int)) = true := decide_eq_true (by omega)
        have d4 : decide (i < N) = true := decide_eq_true (by omega)
        obtain ⟨o, ho⟩ : ∃ o, l[i]? = some o := ⟨_, List.getElem?_eq_getElem (by rw [HL.out]; exact p)⟩
        obtain ⟨g, off, rfl, c0, D, hd⟩ := HH.out i o ho
        obtain ⟨b, cp, hv, _⟩ := hd.form
        have ht := wO_take ho
        have hle := wO_le l (i + 1)
        obtain ⟨K, hK⟩ : ∃ K, o.ds.length = K := ⟨_, rfl⟩
        have HK : Hid (o.ds.length = K ∧ wO (l.take (i + 1)) = m + (K + wE o.ds) ∧ m + (K + wE o.ds) ≤ 1000000000) := ⟨hK, by rw [ht, HM.out, hK], by have := HB.out; have := HM.out; omega⟩
        rw [hv, hK] at c0
        have HD : Hid (DArg D (.slice b K cp) o.ds w) := by rw [hv, hK] at hd; exact hd
        have hKm : m + K ≤ 1000000000 := by have := HK.out.2.2; omega
        clear ht hle hK hd hv HM ho
        go_wp2_with fail
        go_loopw [3, 5] (fun v3 v5 wr => ∃ (j s k : Nat), j ≤ K ∧ v5 = .int .i64 j ∧ v3 = .int .i64 s ∧ s ≤ 1000000000 ∧ wr = w.drewN k ∧ Hid (m + K + wE (o.ds.take j) = s)) (fun _ v5 _ => K - (intOf v5).toNat)
        case atStart => exact ⟨0, m + K, k, Nat.zero_le _, rfl, by go_num, by omega, rfl, rfl⟩
        case round =>
          obtain ⟨j, s, k2, hj, rfl, rfl, hs, rfl, HS⟩ := hrel
          by_cases p2 : j < K
          · have d5 : decide ((j : Int) < (K : Int)) = true := decide_eq_true (by omega)
            have d6 : decide (j < K) = true := decide_eq_true (by omega)
            obtain ⟨d, hd⟩ : ∃ d, o.ds[j]? = some d := ⟨_, List.getElem?_eq_getElem (by rw [HK.out.1]; exact p2)⟩
            obtain ⟨g2, o2, x, y, rfl, _, _, c1, c2, x1, x2⟩ := HD.out.at_ hd
            obtain ⟨xa, xc, rfl, _⟩ := x1.form
            obtain ⟨ya, yc, rfl, _⟩ := x2.form
            have ht := wE_take hd
            have hle := wE_le o.ds (j + 1)
            obtain ⟨X1, hX1⟩ : ∃ X, d.old.length = X := ⟨_, rfl⟩
            obtain ⟨Y1, hY1⟩ : ∃ X, d.nw.length = X := ⟨_, rfl⟩
            rw [hX1] at c1 ht
            rw [hY1] at c2 ht
            have HQ : Hid (m + K + wE (o.ds.take (j + 1)) = s + (X1 + Y1)) := by have := HS.out; show _ = _; omega
            have hsm : s + (X1 + Y1) ≤ 1000000000 := by have := HQ.out; have := HK.out.2.2; omega
            clear hd x1 x2 ht hle hX1 hY1 HS
            go_wp2_with fail
            go_quiet (fail)
            go_wp2_with fail
            go_roundw
            case rel => exact ⟨j + 1, s + (X1 + Y1), _, by omega, by go_num, by go_num, hsm, rfl, HQ.out⟩
            case measure => simp only [intOf]; omega
          · obtain rfl : j = K := by omega
            have d5 : decide ((j : Int) < (j : Int)) = false := by simp
            have HQ : Hid (wO (l.take (i + 1)) = s) := by
              have h1 := HS.out
              rw [List.take_of_length_le (by rw [HK.out.1]; exact Nat.le_refl _)] at h1
              show _ = _
              rw [HK.out.2.1]; omega
            clear HS
            go_wp2_with fail
            go_roundw
            case rel => exact ⟨i + 1, s, _, by omega, by go_num, rfl, hs, rfl, HQ.out⟩
            case measure => simp only [intOf]; omega
      · obtain rfl : i = N := by omega
        have d3 : decide ((i : Int) < (i : Int)) = false := by simp
        have hmm : m = wO l := by have h1 := HM.out; rw [List.take_of_length_le (by rw [HL.out]; exact Nat.le_refl _)] at h1; exact h1.symm
        have HX : Hid (hvO l = decide ((m : Int) > 2000)) := by
          show hvO l = _
          rw [HE.out, hmm]
          by_cases z : 2000 < wO l
          · rw [decide_eq_true z, decide_eq_true (by omega)]
          · rw [decide_eq_false z, decide_eq_false (by omega)]
        clear HM hmm
        go_wp2_with fail
        go_ret
        exact ⟨by rw [HX.out]; rfl, k, rfl⟩
end Go.Proofs.Ytomiblpgjkmmcaa
/- The chapter's example. -/
namespace Go.Proofs.Ytomiblpgjkmmcaa
open Go.ChangeShapes Go.WideShapes Go.ChangeAt Go.RowKit Go.Maps Go.MapKept
set_option linter.unusedVariables false
set_option linter.unusedSimpArgs false
set_option maxRecDepth 100000
theorem eqlT (ad : Addr) (w : World) : Sem.run Try.prog (binOp BinOp.eql 22 (.pointer (some ad)) (.pointer none)) w = .ok (.bool false) w := by kernel_rfl
theorem eqlT0 (w : World) : Sem.run Try.prog (binOp BinOp.eql 22 (.pointer none) (.pointer none)) w = .ok (.bool true) w := by kernel_rfl
theorem eqlS1 (w : World) : Sem.run Try.prog (binOp BinOp.eql 64 (.agg #[.int .i64 0, .int .i64 (-1)]) (.agg #[.int .i64 0, .int .i64 (-1)])) w = .ok (.bool true) w := by kernel_rfl
theorem eqlS2 (w : World) : Sem.run Try.prog (binOp BinOp.eql 64 (.agg #[.int .i64 2, .int .i64 0]) (.agg #[.int .i64 2, .int .i64 0])) w = .ok (.bool true) w := by kernel_rfl
theorem row_one {w : World} {b : Nat} {s : ByteArray} (h : Lc 9 b [.string s] w) : Row 0 (.slice (some ⟨b, 0, none⟩) 1 1) [s] w :=
  ⟨rfl, .inr ⟨b, 1, _, rfl, Nat.zero_le _, h, Nat.le_refl _, by simp [maxLen], rfl, rfl⟩⟩
theorem row_nil0 (B : Nat) (w : World) : Row B (.slice none 0 0) [] w := ⟨rfl, .inl ⟨rfl, rfl⟩⟩
theorem few_one (d : Dl) (h1 : d.old.length ≤ 2000) (h2 : d.nw.length ≤ 2000) : Few 2000 [d] := ⟨by simp, fun x hx => by simp only [List.mem_singleton] at hx; subst hx; exact ⟨by omega, by omega⟩⟩
/-- Add of one line that is put in. -/
theorem add_line {B C t : Nat} {m : Tr} {w : World} (h : Tw B C t m w) (I : Inv m) (hn : m.next ≤ 10000) (hm : (m.L.length : Int) + 1 ≤ m.most) (hB : B ≤ w.heap.size) (s : ByteArray) :
    Calls Try.prog 12 #[.pointer (some ⟨t, 0, none⟩), .slice (some ⟨w.heap.size + 1, 0, none⟩) 1 1] ((w.alloc (.cells #[.string s] 9)).alloc (.cells #[.int .i64 0, .slice none 0 0, .slice (some ⟨w.heap.size, 0, none⟩) 1 1] 35)) fun e w' => e = .returned (.int .i64 m.next) ∧ Tw B w'.heap.size t (addT m [⟨0, [], [s]⟩]) w' ∧ Ff TP B w w' := by
  have k : Kp w ((w.alloc (.cells #[.string s] 9)).alloc (.cells #[.int .i64 0, .slice none 0 0, .slice (some ⟨w.heap.size, 0, none⟩) 1 1] 35)) := kp_more (kp_alloc _ _) _
  have b1 := (Lc.new w [.string s] 9).kp (kp_alloc _ (.cells #[.int .i64 0, .slice none 0 0, .slice (some ⟨w.heap.size, 0, none⟩) 1 1] 35))
  have b2 := Lc.new (w.alloc (.cells #[.string s] 9)) [.int .i64 0, .slice none 0 0, .slice (some ⟨w.heap.size, 0, none⟩) 1 1] 35
  rw [alloc_size] at b2
  have hd : Dr (fun _ => True) (Row 0) (.slice (some ⟨w.heap.size + 1, 0, none⟩) 1 1) [⟨0, [], [s]⟩] _ := Dr.one (d := ⟨0, [], [s]⟩) (row_nil0 0 _) (row_one b1) b2
  refine (add_few (h.kp k) I.fam hn I.nodup I.nw hm (Nat.le_trans hB k.size) (okRow 0 0) hd (few_one _ (by simp) (by simp)) (by omega)).mono ?_
  rintro e w' ⟨rfl, q1, q2⟩
  exact ⟨rfl, q1, (Ff.kp k).trans q2⟩
def kA : ByteArray := ⟨#[97]⟩
def kB : ByteArray := ⟨#[98]⟩
def km1 : Tr := addT (first 9) [⟨0, [], [kA]⟩]
def km2 : Tr := addT { km1 with now := 0 } [⟨0, [], [kB]⟩]
theorem km1_inv : Inv km1 := (inv_first 9).add (few_one _ (by simp) (by simp))
theorem km1_now : look km1.L km1.now = some ⟨1, 0, -1, [⟨0, [], [kA]⟩]⟩ := rfl
theorem km1_up : Inv { km1 with now := 0 } := km1_inv.up km1_now (by decide)
theorem km2_inv : Inv km2 := km1_up.add (few_one _ (by simp) (by simp))
theorem km2_L : km2.L = [⟨0, -1, 2, []⟩, ⟨1, 0, -1, [⟨0, [], [kA]⟩]⟩, ⟨2, 0, -1, [⟨0, [], [kB]⟩]⟩] := rfl
theorem km2_meet : Meet km2.L km2.now 1 0 [2] [1] := by
  have h2 : look km2.L 2 = some ⟨2, 0, -1, [⟨0, [], [kB]⟩]⟩ := rfl
  have h1 : look km2.L 1 = some ⟨1, 0, -1, [⟨0, [], [kA]⟩]⟩ := rfl
  refine ⟨.cons h2 (by decide) (.nil _), .cons h1 (by decide) (.nil _), fun x hx l hl => ?_⟩
  simp only [List.mem_singleton] at hx
  subst hx
  have := (km2_inv.fam.up_le hl).1
  omega
set_option maxHeartbeats 16000000 in
theorem known_any (w : World) : Calls Try.prog 16 #[] w fun e w' => e = .returned (.bool true) ∧ Kp w w' := by
  have HN : Hid _ := new_any (most := 9) (by decide) (by decide) w
  have he := eqlT
  have he0 := eqlT0
  have hs1 := eqlS1
  have hs2 := eqlS2
  go_enter Try.func16, Try.ntmps16
  go_wp2_with fail
  refine Calls.mono HN.out ?_
  rintro e w1 ⟨t, rfl, t1, k1⟩
  have HA : Hid _ := add_line t1 (inv_first 9) (by decide) (by decide) k1.size kA
  have H1 : Hid (Kp w w1) := k1
  clear HN t1 k1
  go_wp2_with fail
  refine Calls.mono HA.out ?_
  rintro e w2 ⟨rfl, t2, f2⟩
  have H2 : Hid (Kp w w2) := H1.out.trans (f2.below H1.out.size)
  have HU : Hid _ := undo_any t2 (by constructor <;> decide) km1_now (by decide) (few_one ⟨0, [], [kA]⟩ (by simp) (by simp)) (by omega)
  clear HA H1 t2 f2
  go_wp2_with fail
  refine Calls.mono HU.out ?_
  rintro e w3 ⟨v3, rfl, d3, t3, f3⟩
  have H3 : Hid (Kp w w3) := H2.out.trans (f3.below H2.out.size)
  have HA : Hid _ := add_line (m := { km1 with now := 0 }) t3 km1_up (by decide) (by decide) H3.out.size kB
  clear HU H2 d3 t3 f3
  go_wp2_with fail
  refine Calls.mono HA.out ?_
  rintro e w4 ⟨rfl, t4, f4⟩
  have H4 : Hid (Kp w w4 ∧ Tw w.heap.size w4.heap.size t km2 w4) := ⟨H3.out.trans (f4.below H3.out.size), t4⟩
  have HS : Hid _ := states_any (m := km2) t4 km2_inv.fam (by decide) (by decide) km2_inv.sq
  clear HA H3 t4 f4
  go_wp2_with fail
  refine Calls.mono HS.out ?_
  rintro e w5 ⟨v5, rfl, s5, k5⟩
  obtain ⟨g5, c5, rfl⟩ : ∃ g c, v5 = .slice (some ⟨g, 0, none⟩) 3 c := by
    rcases s5.2 with ⟨_, e0⟩ | ⟨g, c, cur, e, _⟩
    · cases e0
    · exact ⟨g, c, e⟩
  have HG : Hid _ := go_any (m := km2) (seq := 1) (H4.out.2.kp k5) k5.size km2_inv.fam (by decide) km2_inv.nw (by decide)
  have H5 : Hid (Kp w w5 ∧ Sr w4.heap.size (.slice (some ⟨g5, 0, none⟩) 3 c5) km2.L w5) := ⟨kp_trans H4.out.1 k5, s5⟩
  clear HS H4 s5 k5
  go_wp2_with fail
  refine Calls.mono HG.out ?_
  rintro e w6 ⟨v6, rfl, top, l1, l2, hm, d6, t6, f6⟩
  obtain ⟨rfl, rfl, rfl⟩ := km2_inv.fam.meet_one hm km2_meet
  have hds : upsD km2.L [2] ++ dnD km2.L [1] = [⟨0, [kB], []⟩, ⟨0, [], [kA]⟩] := rfl
  rw [hds] at d6
  have s6 : Sr w4.heap.size (.slice (some ⟨g5, 0, none⟩) 3 c5) km2.L w6 := row_ff H5.out.2 f6 fun _ _ q => by rcases q with q | q <;> exact absurd q (by decide)
  have y0 : w6.cell? ⟨g5, 0, none⟩ = some (.int .i64 0) := (s6.cellAt 0 (by decide)).trans rfl
  have y1 : w6.cell? ⟨g5, 1, none⟩ = some (.int .i64 (-1)) := (s6.cellAt 1 (by decide)).trans rfl
  have y4 : w6.cell? ⟨g5, 4, none⟩ = some (.int .i64 2) := (s6.cellAt 4 (by decide)).trans rfl
  have y5 : w6.cell? ⟨g5, 5, none⟩ = some (.int .i64 0) := (s6.cellAt 5 (by decide)).trans rfl
  obtain ⟨a6, c6, rfl, _⟩ := d6.form
  obtain ⟨g6, o6, x0, x1, e6, _, z0, z1, z2, r0, r1⟩ := d6.dr.at_ (i := 0) rfl
  obtain ⟨g7, o7, x2, x3, e7, _, z3, z4, z5, r2, r3⟩ := d6.dr.at_ (i := 1) rfl
  rw [e6] at e7
  cases e7
  subst e6
  obtain ⟨a7, c7, rfl, _⟩ := r0.form
  obtain ⟨a8, c8, rfl, _⟩ := r3.form
  obtain ⟨h7, p7, rfl, _, m7⟩ := (Sl.of_row r0).at_ (i := 0) rfl
  obtain ⟨h8, p8, rfl, _, m8⟩ := (Sl.of_row r3).at_ (i := 0) rfl
  have H6 : Hid (Kp w w6) := H5.out.1.trans (f6.below H5.out.1.size)
  have HX : Hid _ := new_none (most := 0) (by decide) w6
  clear HG H5 hm d6 t6 f6 hds s6 r0 r1 r2 r3
  simp only [Nat.zero_mul, Nat.add_zero, Nat.one_mul] at z0 z1 z2 z3 z4 z5 m7 m8
  simp only [List.length_cons, List.length_nil, Nat.zero_add] at z1 z5
  have m7' : w6.cell? ⟨h7, p7, none⟩ = some (.string ⟨#[98]⟩) := m7
  have m8' : w6.cell? ⟨h8, p8, none⟩ = some (.string ⟨#[97]⟩) := m8
  clear m7 m8
  go_wp2_with fail
  refine Calls.mono HX.out ?_
  rintro e w7 ⟨rfl, rfl⟩
  clear HX
  go_wp2_with fail
  go_ret
  exact ⟨rfl, H6.out⟩
end Go.Proofs.Ytomiblpgjkmmcaa
/- UndoBack, walked. -/
namespace Go.Proofs.Ytomiblpgjkmmcaa
open Go.ChangeShapes Go.WideShapes Go.ChangeAt Go.RowKit Go.Maps Go.MapKept
set_option linter.unusedVariables false
set_option linter.unusedSimpArgs false
set_option maxRecDepth 100000
theorem Tw.low {B B' C t : Nat} {m : Tr} {w : World} (h : Tw B C t m w) (hB : B' ≤ B) : Tw B' C t m w := by
  obtain ⟨b, q, h⟩ := h
  exact ⟨b, q, Nat.le_trans hB h.lt, Nat.le_trans hB h.lb, h.box, h.map, fun x s hx => by obtain ⟨h1, h2⟩ := h.st x s hx; exact ⟨Nat.le_trans hB h1, h2⟩, h.inj⟩
theorem Rw.low {B B' C r : Nat} {m : Tr} {w : World} (h : Rw B C r m w) (hB : B' ≤ B) : Rw B' C r m w := by
  obtain ⟨v, vs, h⟩ := h
  exact ⟨v, vs, Nat.le_trans hB h.lr, h.box, row_lift h.row fun j hj => Nat.le_trans hB (h.row.lt j hj).1, h.bys⟩
theorem sum_mem {α : Type} (f : α → Nat) {x : α} : ∀ {l : List α}, x ∈ l → f x ≤ (l.map f).sum
  | y :: l, h => by
    rcases List.mem_cons.1 h with rfl | h
    · simp
    · have := sum_mem f h; simp; omega
theorem len_wD (ds : List Dl) : ds.length ≤ (ds.map wD).sum := by
  induction ds with
  | nil => simp
  | cons d l ih => simp only [List.length_cons, List.map_cons, List.sum_cons, wD]; omega
theorem few_wD {ds : List Dl} (h : (ds.map wD).sum ≤ 2000) : Few 2000 ds := ⟨by have := len_wD ds; omega, fun d hd => by
  have := sum_mem wD hd
  unfold wD at this h
  exact ⟨by omega, by omega⟩⟩
theorem few_wO {l : List Op12} (h : hvO l = false) {o : Op12} (ho : o ∈ l) : Few 2000 o.ds := by
  unfold hvO at h
  simp only [Bool.or_eq_false_iff, decide_eq_false_iff_not] at h
  have := sum_mem (fun o : Op12 => (o.ds.map wD).sum) ho
  unfold wO at h
  exact few_wD (by omega)
theorem len_hv {l : List Op12} (h : hvO l = false) : l.length ≤ 120 := by
  unfold hvO at h
  simp only [Bool.or_eq_false_iff, decide_eq_false_iff_not] at h
  omega
/-- Where the loop stands. -/
def Lp (B t r i : Nat) (W w : World) : Prop := ∃ C m, Bt B C t r m w ∧ m.most = 200 ∧ m.L.length ≤ 1 + i ∧ m.next ≤ 1 + i ∧ Rt0 m.L ∧ Below B W w
theorem lp_first {W w w1 w2 : World} {t r : Nat} (k : Kp W w) (h1 : Tw w.heap.size w.heap.size t (first 200) w1) (k1 : Kp w w1) (h2 : Rw w1.heap.size w1.heap.size r (first 200) w2) (k2 : Kp w1 w2) : Lp W.heap.size t r 0 W w2 := by
  have s0 := k.size
  have s1 := k1.size
  have s2 := k2.size
  refine ⟨w1.heap.size, first 200, ⟨((h1.kp k2).low s0).up s1, h2.low (by omega), inw_first 200, by omega, s2, by decide, by decide⟩, rfl, by decide, by decide, ⟨_, rfl, rfl⟩, kp_trans (kp_trans k k1) k2⟩
theorem lp_step {W w w' : World} {B t r i : Nat} {m : Tr} (h1 : m.most = 200) (h2 : m.L.length ≤ 1 + i) (h3 : m.next ≤ 1 + i) (h4 : Rt0 m.L) (hb : Below B W w) (h : Dne B t r m w w') : Lp B t r (i + 1) W w' := by
  obtain ⟨C, m', q1, q2, q3⟩ := h
  exact ⟨C, m', q1, q2.mo.trans h1, by have := q2.len; omega, by have := q2.nx; omega, q2.rt h4, hb.trans q3⟩
end Go.Proofs.Ytomiblpgjkmmcaa
/- UndoNone, walked. -/
namespace Go.Proofs.Ytomiblpgjkmmcaa
open Go.ChangeShapes Go.WideShapes Go.ChangeAt Go.RowKit Go.Maps Go.MapKept
set_option linter.unusedVariables false
set_option linter.unusedSimpArgs false
set_option maxRecDepth 100000
/-- What is handed in. -/
def Agn (a : Option Addr) (N cap : Nat) (l : List Op12) (W : World) : Prop :=
  OpL W.heap.size (.slice a N cap) l W ∧ (∀ o ∈ l, o.kd < 256 ∧ -9223372036854775808 ≤ o.n ∧ o.n < 9223372036854775808) ∧ l.length = N
set_option maxHeartbeats 32000000 in
theorem none_walk {v : Value} {l : List Op12} {W : World} (hL : OpL W.heap.size v l W) (hok : ∀ o ∈ l, o.kd < 256 ∧ -9223372036854775808 ≤ o.n ∧ o.n < 9223372036854775808) (hw : wO l ≤ 1048576) (n : Int) (hn : -9223372036854775808 ≤ n ∧ n < 9223372036854775808) :
    Calls Try.prog 5 #[v, .int .i64 n] W fun e w' => e = .returned (.bool true) ∧ Below W.heap.size W w' := by
  obtain ⟨a, cap, rfl, hc1, hc2⟩ : ∃ a cap, v = .slice a l.length cap ∧ l.length ≤ cap ∧ cap ≤ maxLen := by obtain ⟨a, cap, h1, h2, h3, _⟩ := hL; exact ⟨a, cap, h1, h2, h3⟩
  obtain ⟨N, hN⟩ : ∃ N, l.length = N := ⟨_, rfl⟩
  have HV : Hid _ := heavy_any hL.q (by omega)
  rw [hN] at HV hL hc1 ⊢
  have HA : Hid (Agn a N cap l W) := ⟨hL, hok, hN⟩
  have HFl : Hid (hvO l = false → l.length ≤ 120 ∧ ∀ o ∈ l, Few 2000 o.ds) := fun h => ⟨len_hv h, fun o ho => few_wO h ho⟩
  unfold maxLen at hc2
  generalize hvO l = h1 at HV HFl
  have he := eqlT
  obtain ⟨x, hx⟩ : ∃ x, x = Int.tmod (max n 0) 1000 := ⟨_, rfl⟩
  have hx0 : 0 ≤ x := by rw [hx, Int.tmod_eq_emod_of_nonneg (by omega)]; omega
  have hx1 : x < 1000 := by rw [hx, Int.tmod_eq_emod_of_nonneg (by omega)]; omega
  have hx2 : max n 0 % 1000 = x := by rw [hx, Int.tmod_eq_emod_of_nonneg (by omega)]
  have hx3 : Int.tmod (max n 0) 1000 = x := hx.symm
  clear hL hok hN hw hx
  go_enter Try.func5, Try.ntmps5
  go_wp2_with fail
  refine Calls.mono HV.out ?_
  rintro e w1 ⟨rfl, k1, rfl⟩
  cases h1 with
  | true =>
    have HK : Hid _ := known_any (W.drewN k1)
    clear HV HFl
    go_wp2_with fail
    refine Calls.mono HK.out ?_
    rintro e w2 ⟨rfl, k2⟩
    have H2 : Hid (Kp W w2) := kp_trans (kp_drewN _ _) k2
    clear HK k2
    go_wp2_with fail
    go_ret
    exact ⟨rfl, H2.out⟩
  | false =>
      have HK : Hid _ := known_any (W.drewN k1)
      have H2 : Hid (Kp W (W.drewN k1)) := kp_drewN _ _
      have HFo : Hid (∀ o ∈ l, Few 2000 o.ds) := (HFl.out (by trivial)).2
      have hN2 : N ≤ 120 := by have := (HFl.out (by trivial)).1; rw [HA.out.2.2] at this; exact this
      clear HV HFl
      go_wp2_with fail
      refine Calls.mono HK.out ?_
      rintro e w3 ⟨rfl, k3⟩
      have H3 : Hid (Kp W w3) := kp_trans H2.out k3
      have HT : Hid _ := new_any (most := 200) (by decide) (by decide) w3
      clear HK k3 H2
      go_wp2_with fail
      refine Calls.mono HT.out ?_
      rintro e w4 ⟨t, rfl, t4, k4⟩
      have H4 : Hid (Tw w3.heap.size w3.heap.size t (first 200) w4 ∧ Kp w3 w4) := ⟨t4, k4⟩
      have HR : Hid _ := rnew_any (most := 200) (by decide) (by decide) w4
      clear HT t4 k4
      go_wp2_with fail
      refine Calls.mono HR.out ?_
      rintro e w5 ⟨r, rfl, r5, k5⟩
      have H5 : Hid (Lp W.heap.size t r 0 W w5) := lp_first H3.out H4.out.1 H4.out.2 r5 k5
      clear HR r5 k5 H3 H4
      go_wp2_with fail
      go_loopw [7] (fun v7 wr => ∃ i : Nat, i ≤ N ∧ v7 = .int .i64 i ∧ Hid (Lp W.heap.size t r i W wr)) (fun v7 _ => N - (intOf v7).toNat)
      case atStart => exact ⟨0, Nat.zero_le _, by go_num, H5.out⟩
      case round =>
        clear H5
        obtain ⟨i, hi, rfl, HI⟩ := hrel
        by_cases q : i < N
        · have g1 : decide ((i : Int) < (N : Int)) = true := decide_eq_true (by omega)
          have g2 : decide (i < N) = true := decide_eq_true (by omega)
          obtain ⟨C, m, bt, e1, e2, e3, rt, bl⟩ := HI.out
          have hol := HA.out.1.below bl
          obtain ⟨o, ho⟩ : ∃ o, l[i]? = some o := ⟨_, List.getElem?_eq_getElem (by rw [HA.out.2.2]; exact q)⟩
          obtain ⟨a', cap', e, _, _, hcs⟩ := hol
          cases e
          obtain ⟨g, off, rfl, _, c0, c1, c2, hda⟩ := hcs i o ho
          have hom : o ∈ l := List.mem_of_getElem? ho
          obtain ⟨hk1, hn0, hn1⟩ := HA.out.2.1 o hom
          have HD : Hid _ := does_any bt (by omega) (by omega) (by rw [e1]; omega) (kd := (o.kd : Int)) (n := o.n) (by omega) (by omega) ⟨hn0, hn1⟩ hda (HFo.out o hom)
          have HM : Hid (m.most = 200 ∧ m.L.length ≤ 1 + i ∧ m.next ≤ 1 + i ∧ Rt0 m.L ∧ Below W.heap.size W wr) := ⟨e1, e2, e3, rt, bl⟩
          obtain ⟨oa, on, oc, hov⟩ : ∃ a n c, o.v = .slice a n c := by obtain ⟨a, c, q, _⟩ := hda.form; exact ⟨a, _, c, q⟩
          rw [hov] at c2 HD
          obtain ⟨kd, hkd⟩ : ∃ k : Int, k = (o.kd : Int) := ⟨_, rfl⟩
          obtain ⟨on', hon⟩ : ∃ k : Int, k = o.n := ⟨_, rfl⟩
          rw [← hkd] at c0 HD
          rw [← hon] at c1 HD
          clear HI bt e1 e2 e3 rt bl hcs hda hom ho hk1 hn0 hn1 hov hkd hon
          go_wp2_with fail
          refine Calls.mono HD.out ?_
          rintro e w6 ⟨rfl, q6⟩
          have H6 : Hid (Lp W.heap.size t r (i + 1) W w6) := lp_step HM.out.1 HM.out.2.1 HM.out.2.2.1 HM.out.2.2.2.1 HM.out.2.2.2.2 q6
          clear HD HM q6
          go_wp2_with fail
          go_roundw
          case rel => exact ⟨i + 1, by omega, by go_num, H6.out⟩
          case measure => simp only [intOf]; omega
        · obtain rfl : i = N := by omega
          have g1 : decide ((i : Int) < (i : Int)) = false := by simp
          obtain ⟨C, m, bt, e1, e2, e3, rt, bl⟩ := HI.out
          have hlt := bt.inw.inv.lt
          have hx4 : 0 ≤ m.next := by omega
          have hx5 : m.next ≤ 200 := by omega
          have cN : wr.cell? ⟨r, 3, none⟩ = some (.int .i64 m.next) := by obtain ⟨v, vs, h⟩ := bt.rw; exact h.box.at (j := 3) rfl
          have dN : (m.now != m.now) = false := by simp
          have nofar : ∀ y, (y < 0 ∨ m.next ≤ y) → look m.L y = none := fun y hy => by
            cases e : look m.L y with
            | none => rfl
            | some s => have := bt.inw.inv.fam.fr _ _ e; omega
          have HN1 : Hid _ := now_any bt.tw
          have HG1 : Hid _ := go_none bt.tw (seq := m.next + x) ⟨by omega, by omega⟩ (nofar _ (.inr (by omega)))
          have HG2 : Hid _ := go_none bt.tw (seq := -1 - x) ⟨by omega, by omega⟩ (nofar _ (.inl (by omega)))
          obtain ⟨s0, hs0, hf0⟩ := rt
          have HG3 : Hid _ := go_any bt.tw bt.hC bt.inw.inv.fam (by omega) bt.inw.inv.nw (seq := 0) (by rw [hs0]; simp)
          have HB3 : Hid (Below W.heap.size W wr ∧ W.heap.size ≤ wr.heap.size ∧ look m.L 0 = some s0 ∧ s0.fr = -1) := ⟨bl, bt.hB, hs0, hf0⟩
          clear HI bt e1 e2 e3 bl nofar hs0 hf0 hlt HFo
          go_wp2_with fail
          refine Calls.mono HN1.out ?_
          rintro e w6 ⟨rfl, rfl⟩
          go_wp2_with fail
          refine Calls.mono HG1.out ?_
          rintro e w7 ⟨rfl, rfl⟩
          go_wp2_with fail
          refine Calls.mono HG2.out ?_
          rintro e w8 ⟨rfl, rfl⟩
          go_wp2_with fail
          refine Calls.mono HN1.out ?_
          rintro e w9 ⟨rfl, rfl⟩
          clear HN1 HG1 HG2
          go_wp2_with fail
          refine Calls.mono HG3.out ?_
          rintro e w10 ⟨v10, rfl, top, l1, l2, hm, d10, t10, f10⟩
          obtain ⟨s1, hs1, hf1⟩ := fr_led (y := top) l2 m.L 0 s0 HB3.out.2.2.1
          have HU : Hid _ := undo_end t10 (rg_of (x := 0) ⟨by decide, by decide⟩) hs1 (hf1.trans HB3.out.2.2.2)
          have HN2 : Hid (∀ k, Calls Try.prog 14 #[.pointer (some ⟨t, 0, none⟩)] (w10.drewN k) fun e w' => e = .returned (.int .i64 0) ∧ w' = w10.drewN k) := fun k => now_any (t10.kp (kp_drewN _ k))
          have H10 : Hid (Below W.heap.size W w10 ∧ W.heap.size ≤ w10.heap.size) := ⟨HB3.out.1.trans (f10.below HB3.out.2.1), Nat.le_trans HB3.out.2.1 f10.size⟩
          obtain ⟨a10, c10, e10, _⟩ := d10.form
          generalize hl10 : (upsD m.L l1 ++ dnD m.L l2).length = n10 at e10
          subst e10
          clear HG3 HB3 hm d10 t10 f10 hs1 hf1 hl10 cN
          go_wp2_with fail
          refine Calls.mono HU.out ?_
          rintro e w11 ⟨rfl, k11, rfl⟩
          have HN3 : Hid _ := HN2.out k11
          clear HU HN2
          go_wp2_with fail
          refine Calls.mono HN3.out ?_
          rintro e w12 ⟨rfl, rfl⟩
          clear HN3
          go_wp2_with fail
          go_ret
          exact ⟨rfl, H10.out.1.trans ((kp_drewN w10 k11).mono H10.out.2)⟩
end Go.Proofs.Ytomiblpgjkmmcaa
