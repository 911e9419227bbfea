/- Texts that the proof of the law stands on: VG, VT, ZI, ZJ, HB, HC, HD, HE, HF, HG, HH, ZQ. -/
import Derived.Test.YtehghbinjfkhgaaPartA
import Derived.Test.YtehghbinjfkhgaaRows
import Derived.Lib.SmallJoins
import Derived.OpenShut
import Derived.Deep.Slices
import Derived.Deep.Strs
import Derived.Test.YtehghbinjfkhgaaPartD
import Derived.Test.YtehghbinjfkhgaaPartB
/- emendatorref12.texts, Same: of equal ones. -/
namespace Go.Proofs.Ytehghbinjfkhgaa
open Go.ChangeShapes Go.WideShapes Go.ChangeAt Go.RowKit Go.Maps Go.MapKept
set_option linter.unusedVariables false
set_option linter.unusedSimpArgs false
set_option maxRecDepth 100000
set_option maxHeartbeats 4000000 in
theorem texts_eq {P Q : Nat → Prop} {v1 v2 : Value} {l : List ByteArray} {w : World} (h1 : Sl P v1 l w) (h2 : Sl Q v2 l w) :
    Calls Try.prog 40 #[v1, v2] w fun e w' => e = .returned (.bool true) ∧ ∃ q, w' = w.drewN q := by
  obtain ⟨a1, c1, rfl, p1, p2, _⟩ := h1.form
  obtain ⟨a2, c2, rfl, _⟩ := h2.form
  obtain ⟨n, hn⟩ : ∃ n, l.length = n := ⟨_, rfl⟩
  rw [hn] at h1 h2 p1 ⊢
  have HA : Hid (Sl P (.slice a1 n c1) l w ∧ Sl Q (.slice a2 n c2) l w ∧ l.length = n) := ⟨h1, h2, hn⟩
  have hd0 : ((n : Int) != (n : Int)) = false := by simp
  unfold maxLen at p2
  have hn9 : n ≤ 9223372036854775807 := by omega
  clear h1 h2 hn p1 p2
  go_enter Try.func40, Try.ntmps40
  go_wp2_with fail
  go_loopw [5] (fun vi wr => ∃ i : Nat, i ≤ n ∧ vi = .int .i64 i ∧ ∃ q, wr = w.drewN q) (fun vi _ => n - (intOf vi).toNat)
  case atStart => exact ⟨0, Nat.zero_le _, rfl, 0, rfl⟩
  case round =>
    obtain ⟨i, hi, rfl, q, rfl⟩ := hrel
    by_cases hlt : i < n
    · have hdl : decide ((i : Int) < (n : Int)) = true := decide_eq_true (by omega)
      obtain ⟨s, hs⟩ : ∃ s, l[i]? = some s := ⟨_, List.getElem?_eq_getElem (by rw [HA.out.2.2]; exact hlt)⟩
      obtain ⟨g1, o1, rfl, _, e1⟩ := HA.out.1.at_ hs
      obtain ⟨g2, o2, rfl, _, e2⟩ := HA.out.2.1.at_ hs
      have hli : (i : Int) < (n : Int) := by omega
      clear hs
      go_wp2_with fail
      go_quiet (fail)
      go_wp2_with fail
      go_roundw
      case rel => exact ⟨i + 1, by omega, by go_num, _, rfl⟩
      case measure => simp only [intOf]; omega
    · obtain rfl : i = n := by omega
      have hdl : decide ((i : Int) < (i : Int)) = false := by simp
      go_wp2_with fail
      go_ret
      exact ⟨rfl, _, rfl⟩
set_option maxHeartbeats 16000000 in
theorem same_eq {P Q : Nat → Prop} {X Y : Xl} {B C : Nat} (okx : Okx B X) (oky : Okx C Y) {v1 v2 : Value} {ds : List Dl} {w : World} (h1 : Dr P X v1 ds w) (h2 : Dr Q Y v2 ds w) :
    Calls Try.prog 20 #[v1, v2] w fun e w' => e = .returned (.bool true) ∧ ∃ q, w' = w.drewN q := by
  obtain ⟨a1, c1, rfl, p1, p2, _⟩ := h1.form
  obtain ⟨a2, c2, rfl, _⟩ := h2.form
  obtain ⟨n, hn⟩ : ∃ n, ds.length = n := ⟨_, rfl⟩
  rw [hn] at h1 h2 p1 ⊢
  have HA : Hid (Dr P X (.slice a1 n c1) ds w ∧ Dr Q Y (.slice a2 n c2) ds w ∧ ds.length = n) := ⟨h1, h2, hn⟩
  have hd0 : ((n : Int) != (n : Int)) = false := by simp
  unfold maxLen at p2
  have hn9 : n ≤ 9223372036854775807 := by omega
  clear h1 h2 hn p1 p2
  go_enter Try.func20, Try.ntmps20
  go_wp2_with fail
  go_loopw [5] (fun vi wr => ∃ i : Nat, i ≤ n ∧ vi = .int .i64 i ∧ ∃ q, wr = w.drewN q) (fun vi _ => n - (intOf vi).toNat)
  case atStart => exact ⟨0, Nat.zero_le _, rfl, 0, rfl⟩
  case round =>
    obtain ⟨i, hi, rfl, q, rfl⟩ := hrel
    by_cases hlt : i < n
    · have hdl : decide ((i : Int) < (n : Int)) = true := decide_eq_true (by omega)
      have hl2 : i < n := hlt
      obtain ⟨d, hd⟩ : ∃ d, ds[i]? = some d := ⟨_, List.getElem?_eq_getElem (by rw [HA.out.2.2]; exact hlt)⟩
      obtain ⟨g1, o1, x1, y1, rfl, _, c0, c1', c2', r1, r2⟩ := (HA.out.1.kp okx (kp_drewN w q)).at_ hd
      obtain ⟨g2, o2, x2, y2, rfl, _, c3, c4, c5, r3, r4⟩ := (HA.out.2.1.kp oky (kp_drewN w q)).at_ hd
      obtain ⟨f1, m1, rfl, _⟩ := (okx.sl r1).form
      obtain ⟨f2, m2, rfl, _⟩ := (okx.sl r2).form
      obtain ⟨f3, m3, rfl, _⟩ := (oky.sl r3).form
      obtain ⟨f4, m4, rfl, _⟩ := (oky.sl r4).form
      have HT1 : Hid (∀ m, Calls Try.prog 40 #[.slice f1 d.old.length m1, .slice f3 d.old.length m3] ((w.drewN q).drewN m) fun e w' => e = .returned (.bool true) ∧ ∃ k, w' = (w.drewN q).drewN k) := fun m => (texts_eq ((okx.sl r1).kp (kp_drewN _ m)) ((oky.sl r3).kp (kp_drewN _ m))).mono (by rintro e w' ⟨rfl, k, rfl⟩; exact ⟨rfl, m + k, by rw [drew2]⟩)
      have HT2 : Hid (∀ m, Calls Try.prog 40 #[.slice f2 d.nw.length m2, .slice f4 d.nw.length m4] ((w.drewN q).drewN m) fun e w' => e = .returned (.bool true) ∧ ∃ k, w' = (w.drewN q).drewN k) := fun m => (texts_eq ((okx.sl r2).kp (kp_drewN _ m)) ((oky.sl r4).kp (kp_drewN _ m))).mono (by rintro e w' ⟨rfl, k, rfl⟩; exact ⟨rfl, m + k, by rw [drew2]⟩)
      generalize d.old.length = n1 at HT1 c1' c4
      generalize d.nw.length = n2 at HT2 c2' c5
      generalize d.at_ = at0 at c0 c3
      have hda : (at0 != at0) = false := by simp
      clear r1 r2 r3 r4 hd HA
      go_upto_region 6 with fail
      obtain ⟨W1, hW1⟩ : ∃ W1, w.drewN q = W1 := ⟨_, rfl⟩
      have HW : Hid (w.drewN q = W1) := hW1
      rw [hW1] at HT1 HT2 c0 c1' c2' c3 c4 c5 ⊢
      clear hW1
      refine wp_region_noPanic ?_
      refine wp_region_held_drew (S := fun z => z.cell? ⟨g1, o1 + i * 3, none⟩ = some (.int .i64 at0) ∧ z.cell? ⟨g1, o1 + i * 3 + 1, none⟩ = some (.slice f1 n1 m1) ∧ z.cell? ⟨g1, o1 + i * 3 + 2, none⟩ = some (.slice f2 n2 m2) ∧ z.cell? ⟨g2, o2 + i * 3, none⟩ = some (.int .i64 at0) ∧ z.cell? ⟨g2, o2 + i * 3 + 1, none⟩ = some (.slice f3 n1 m3) ∧ z.cell? ⟨g2, o2 + i * 3 + 2, none⟩ = some (.slice f4 n2 m4)) (by kernel_rfl) (⟨c0, c1', c2', c3, c4, c5⟩) (fun hHeld => ?_)
      refine takeAt 0 (some 17) ?_ rfl rfl (by kernel_rfl) (by kernel_rfl) (by kernel_rfl) (fun _ _ _ h => h) (Or.inl ⟨by rfl, ?_⟩) hHeld ?_
      rotate_left
      · intro w hSw
        go_simp <;> with_reducible rfl
      try simp only [Act.put, List.setIfInBounds_toArray, List.set_cons_zero, List.set_cons_succ]
      refine takeAt 1 (some 18) ?_ rfl rfl (by kernel_rfl) (by kernel_rfl) (by kernel_rfl) (fun _ _ _ h => h) (Or.inl ⟨by rfl, ?_⟩) hHeld ?_
      rotate_left
      · intro w hSw
        go_simp <;> with_reducible rfl
      try simp only [Act.put, List.setIfInBounds_toArray, List.set_cons_zero, List.set_cons_succ]
      refine takeAt 2 (some 19) ?_ rfl rfl (by kernel_rfl) (by kernel_rfl) (by kernel_rfl) (fun _ _ _ h => h) (Or.inl ⟨by rfl, ?_⟩) hHeld ?_
      rotate_left
      · intro w hSw
        go_simp <;> with_reducible rfl
      try simp only [Act.put, List.setIfInBounds_toArray, List.set_cons_zero, List.set_cons_succ]
      refine takeAt 3 (some 20) ?_ rfl rfl (by kernel_rfl) (by kernel_rfl) (by kernel_rfl) (fun _ _ _ h => h) (Or.inl ⟨by rfl, ?_⟩) hHeld ?_
      rotate_left
      · intro w hSw
        go_simp <;> with_reducible rfl
      try simp only [Act.put, List.setIfInBounds_toArray, List.set_cons_zero, List.set_cons_succ]
      refine takeAt 4 (some 21) ?_ rfl rfl (by kernel_rfl) (by kernel_rfl) (by kernel_rfl) (fun _ _ _ h => h) (Or.inl ⟨by rfl, ?_⟩) hHeld ?_
      rotate_left
      · intro w hSw
        go_simp <;> with_reducible rfl
      try simp only [Act.put, List.setIfInBounds_toArray, List.set_cons_zero, List.set_cons_succ]
      refine takeAt 5 (some 22) ?_ rfl rfl (by kernel_rfl) (by kernel_rfl) (by kernel_rfl) (fun _ _ _ h => h) (Or.inl ⟨by rfl, ?_⟩) hHeld ?_
      rotate_left
      · intro w hSw
        go_simp <;> with_reducible rfl
      try simp only [Act.put, List.setIfInBounds_toArray, List.set_cons_zero, List.set_cons_succ]
      refine takeAt 6 (some 23) ?_ rfl rfl (by kernel_rfl) (by kernel_rfl) (by kernel_rfl) (fun _ _ _ h => h) (Or.inl ⟨by rfl, ?_⟩) hHeld ?_
      rotate_left
      · intro w hSw
        go_simp <;> with_reducible rfl
      try simp only [Act.put, List.setIfInBounds_toArray, List.set_cons_zero, List.set_cons_succ]
      refine takeAt 7 (some 24) ?_ rfl rfl (by kernel_rfl) (by kernel_rfl) (by kernel_rfl) (fun _ _ _ h => h) (Or.inl ⟨by rfl, ?_⟩) hHeld ?_
      rotate_left
      · intro w hSw
        go_simp <;> with_reducible rfl
      try simp only [Act.put, List.setIfInBounds_toArray, List.set_cons_zero, List.set_cons_succ]
      refine takeAt 8 (some 25) ?_ rfl rfl (by kernel_rfl) (by kernel_rfl) (by kernel_rfl) (fun _ _ _ h => h) (Or.inl ⟨by rfl, ?_⟩) hHeld ?_
      rotate_left
      · intro w hSw
        go_simp <;> with_reducible rfl
      try simp only [Act.put, List.setIfInBounds_toArray, List.set_cons_zero, List.set_cons_succ]
      refine takeAt 9 (some 26) ?_ rfl rfl (by kernel_rfl) (by kernel_rfl) (by kernel_rfl) (fun _ _ _ h => h) (Or.inl ⟨by rfl, ?_⟩) hHeld ?_
      rotate_left
      · intro w hSw
        go_simp <;> with_reducible rfl
      try simp only [Act.put, List.setIfInBounds_toArray, List.set_cons_zero, List.set_cons_succ]
      refine takeAt 10 (some 27) ?_ rfl rfl (by kernel_rfl) (by kernel_rfl) (by kernel_rfl) (fun _ _ _ h => h) (Or.inl ⟨by rfl, ?_⟩) hHeld ?_
      rotate_left
      · intro w hSw
        go_simp <;> with_reducible rfl
      try simp only [Act.put, List.setIfInBounds_toArray, List.set_cons_zero, List.set_cons_succ]
      refine takeAt 11 (some 28) ?_ rfl rfl (by kernel_rfl) (by kernel_rfl) (by kernel_rfl) (fun _ _ _ h => h) (Or.inl ⟨by rfl, ?_⟩) hHeld ?_
      rotate_left
      · intro w hSw
        go_simp <;> with_reducible rfl
      try simp only [Act.put, List.setIfInBounds_toArray, List.set_cons_zero, List.set_cons_succ]
      refine takeAt 12 (some 29) ?_ rfl rfl (by kernel_rfl) (by kernel_rfl) (by kernel_rfl) (fun _ _ _ h => h) (Or.inl ⟨by rfl, ?_⟩) hHeld ?_
      rotate_left
      · intro w hSw
        go_simp <;> with_reducible rfl
      try simp only [Act.put, List.setIfInBounds_toArray, List.set_cons_zero, List.set_cons_succ]
      refine takeAt 13 (some 30) ?_ rfl rfl (by kernel_rfl) (by kernel_rfl) (by kernel_rfl) (fun _ _ _ h => h) (Or.inl ⟨by rfl, ?_⟩) hHeld ?_
      rotate_left
      · intro w hSw
        go_simp <;> with_reducible rfl
      try simp only [Act.put, List.setIfInBounds_toArray, List.set_cons_zero, List.set_cons_succ]
      refine takeAt 14 (some 31) ?_ rfl rfl (by kernel_rfl) (by kernel_rfl) (by kernel_rfl) (fun _ _ _ h => h) (Or.inl ⟨by rfl, ?_⟩) hHeld ?_
      rotate_left
      · intro w hSw
        go_simp <;> with_reducible rfl
      try simp only [Act.put, List.setIfInBounds_toArray, List.set_cons_zero, List.set_cons_succ]
      refine takeAt 15 (some 32) ?_ rfl rfl (by kernel_rfl) (by kernel_rfl) (by kernel_rfl) (fun _ _ _ h => h) (Or.inl ⟨by rfl, ?_⟩) hHeld ?_
      rotate_left
      · intro w hSw
        go_simp <;> with_reducible rfl
      try simp only [Act.put, List.setIfInBounds_toArray, List.set_cons_zero, List.set_cons_succ]
      refine takeAt 16 (some 33) ?_ rfl rfl (by kernel_rfl) (by kernel_rfl) (by kernel_rfl) (fun _ _ _ h => h) (Or.inl ⟨by rfl, ?_⟩) hHeld ?_
      rotate_left
      · intro w hSw
        go_simp <;> with_reducible rfl
      try simp only [Act.put, List.setIfInBounds_toArray, List.set_cons_zero, List.set_cons_succ]
      refine takeAt 17 (some 34) ?_ rfl rfl (by kernel_rfl) (by kernel_rfl) (by kernel_rfl) (fun _ _ _ h => h) (Or.inl ⟨by rfl, ?_⟩) hHeld ?_
      rotate_left
      · intro w hSw
        go_simp <;> with_reducible rfl
      try simp only [Act.put, List.setIfInBounds_toArray, List.set_cons_zero, List.set_cons_succ]
      refine takeAt 18 (some 35) ?_ rfl rfl (by kernel_rfl) (by kernel_rfl) (by kernel_rfl) (fun _ _ _ h => h) (Or.inl ⟨by rfl, ?_⟩) hHeld ?_
      rotate_left
      · intro w hSw
        go_simp <;> with_reducible rfl
      try simp only [Act.put, List.setIfInBounds_toArray, List.set_cons_zero, List.set_cons_succ]
      refine takeAt 19 (some 36) ?_ rfl rfl (by kernel_rfl) (by kernel_rfl) (by kernel_rfl) (fun _ _ _ h => h) (Or.inl ⟨by rfl, ?_⟩) hHeld ?_
      rotate_left
      · intro w hSw
        go_simp <;> with_reducible rfl
      try simp only [Act.put, List.setIfInBounds_toArray, List.set_cons_zero, List.set_cons_succ]
      refine takeAt 20 (some 37) ?_ rfl rfl (by kernel_rfl) (by kernel_rfl) (by kernel_rfl) (fun _ _ _ h => h) (Or.inl ⟨by rfl, ?_⟩) hHeld ?_
      rotate_left
      · intro w hSw
        go_simp <;> with_reducible rfl
      try simp only [Act.put, List.setIfInBounds_toArray, List.set_cons_zero, List.set_cons_succ]
      refine takeAt 21 (some 38) ?_ rfl rfl (by kernel_rfl) (by kernel_rfl) (by kernel_rfl) (fun _ _ _ h => h) (Or.inl ⟨by rfl, ?_⟩) hHeld ?_
      rotate_left
      · intro w hSw
        go_simp <;> with_reducible rfl
      try simp only [Act.put, List.setIfInBounds_toArray, List.set_cons_zero, List.set_cons_succ]
      refine callAtG 22 39 40 (vals := #[.slice f1 n1 m1, .slice f3 n1 m3]) (by kernel_rfl) rfl rfl rfl (by rfl) (by simp [Act.eval]) Try.func40 (by kernel_rfl) (by kernel_rfl) ?_
      refine Calls.mono (HT1.out 1) ?_
      rintro e w2 ⟨rfl, k2, rfl⟩
      refine ⟨_, rfl, ⟨kp_cell (kp_drewN _ k2) c0, kp_cell (kp_drewN _ k2) c1', kp_cell (kp_drewN _ k2) c2', kp_cell (kp_drewN _ k2) c3, kp_cell (kp_drewN _ k2) c4, kp_cell (kp_drewN _ k2) c5⟩, fun hHeld => ?_⟩
      try simp only [Act.put, List.setIfInBounds_toArray, List.set_cons_zero, List.set_cons_succ]
      refine takeAt 23 (some 40) ?_ rfl rfl (by kernel_rfl) (by kernel_rfl) (by kernel_rfl) (fun _ _ _ h => h) (Or.inl ⟨by rfl, ?_⟩) hHeld ?_
      rotate_left
      · intro w hSw
        go_simp <;> with_reducible rfl
      try simp only [Act.put, List.setIfInBounds_toArray, List.set_cons_zero, List.set_cons_succ]
      refine takeAt 24 (some 41) ?_ rfl rfl (by kernel_rfl) (by kernel_rfl) (by kernel_rfl) (fun _ _ _ h => h) (Or.inl ⟨by rfl, ?_⟩) hHeld ?_
      rotate_left
      · intro w hSw
        go_simp <;> with_reducible rfl
      try simp only [Act.put, List.setIfInBounds_toArray, List.set_cons_zero, List.set_cons_succ]
      refine takeAt 25 (some 42) ?_ rfl rfl (by kernel_rfl) (by kernel_rfl) (by kernel_rfl) (fun _ _ _ h => h) (Or.inl ⟨by rfl, ?_⟩) hHeld ?_
      rotate_left
      · intro w hSw
        go_simp <;> with_reducible rfl
      try simp only [Act.put, List.setIfInBounds_toArray, List.set_cons_zero, List.set_cons_succ]
      refine takeAt 26 (some 43) ?_ rfl rfl (by kernel_rfl) (by kernel_rfl) (by kernel_rfl) (fun _ _ _ h => h) (Or.inl ⟨by rfl, ?_⟩) hHeld ?_
      rotate_left
      · intro w hSw
        go_simp <;> with_reducible rfl
      try simp only [Act.put, List.setIfInBounds_toArray, List.set_cons_zero, List.set_cons_succ]
      refine takeAt 27 (some 44) ?_ rfl rfl (by kernel_rfl) (by kernel_rfl) (by kernel_rfl) (fun _ _ _ h => h) (Or.inl ⟨by rfl, ?_⟩) hHeld ?_
      rotate_left
      · intro w hSw
        go_simp <;> with_reducible rfl
      try simp only [Act.put, List.setIfInBounds_toArray, List.set_cons_zero, List.set_cons_succ]
      refine takeAt 28 (some 45) ?_ rfl rfl (by kernel_rfl) (by kernel_rfl) (by kernel_rfl) (fun _ _ _ h => h) (Or.inl ⟨by rfl, ?_⟩) hHeld ?_
      rotate_left
      · intro w hSw
        go_simp <;> with_reducible rfl
      try simp only [Act.put, List.setIfInBounds_toArray, List.set_cons_zero, List.set_cons_succ]
      refine takeAt 29 (some 46) ?_ rfl rfl (by kernel_rfl) (by kernel_rfl) (by kernel_rfl) (fun _ _ _ h => h) (Or.inl ⟨by rfl, ?_⟩) hHeld ?_
      rotate_left
      · intro w hSw
        go_simp <;> with_reducible rfl
      try simp only [Act.put, List.setIfInBounds_toArray, List.set_cons_zero, List.set_cons_succ]
      refine takeAt 30 (some 47) ?_ rfl rfl (by kernel_rfl) (by kernel_rfl) (by kernel_rfl) (fun _ _ _ h => h) (Or.inl ⟨by rfl, ?_⟩) hHeld ?_
      rotate_left
      · intro w hSw
        go_simp <;> with_reducible rfl
      try simp only [Act.put, List.setIfInBounds_toArray, List.set_cons_zero, List.set_cons_succ]
      refine takeAt 31 (some 48) ?_ rfl rfl (by kernel_rfl) (by kernel_rfl) (by kernel_rfl) (fun _ _ _ h => h) (Or.inl ⟨by rfl, ?_⟩) hHeld ?_
      rotate_left
      · intro w hSw
        go_simp <;> with_reducible rfl
      try simp only [Act.put, List.setIfInBounds_toArray, List.set_cons_zero, List.set_cons_succ]
      refine takeAt 32 (some 49) ?_ rfl rfl (by kernel_rfl) (by kernel_rfl) (by kernel_rfl) (fun _ _ _ h => h) (Or.inl ⟨by rfl, ?_⟩) hHeld ?_
      rotate_left
      · intro w hSw
        go_simp <;> with_reducible rfl
      try simp only [Act.put, List.setIfInBounds_toArray, List.set_cons_zero, List.set_cons_succ]
      refine takeAt 33 (some 50) ?_ rfl rfl (by kernel_rfl) (by kernel_rfl) (by kernel_rfl) (fun _ _ _ h => h) (Or.inl ⟨by rfl, ?_⟩) hHeld ?_
      rotate_left
      · intro w hSw
        go_simp <;> with_reducible rfl
      try simp only [Act.put, List.setIfInBounds_toArray, List.set_cons_zero, List.set_cons_succ]
      refine takeAt 34 (some 51) ?_ rfl rfl (by kernel_rfl) (by kernel_rfl) (by kernel_rfl) (fun _ _ _ h => h) (Or.inl ⟨by rfl, ?_⟩) hHeld ?_
      rotate_left
      · intro w hSw
        go_simp <;> with_reducible rfl
      try simp only [Act.put, List.setIfInBounds_toArray, List.set_cons_zero, List.set_cons_succ]
      refine takeAt 35 (some 52) ?_ rfl rfl (by kernel_rfl) (by kernel_rfl) (by kernel_rfl) (fun _ _ _ h => h) (Or.inl ⟨by rfl, ?_⟩) hHeld ?_
      rotate_left
      · intro w hSw
        go_simp <;> with_reducible rfl
      try simp only [Act.put, List.setIfInBounds_toArray, List.set_cons_zero, List.set_cons_succ]
      refine callAtG 36 53 40 (vals := #[.slice f2 n2 m2, .slice f4 n2 m4]) (by kernel_rfl) rfl rfl rfl (by rfl) (by simp [Act.eval]) Try.func40 (by kernel_rfl) (by kernel_rfl) ?_
      refine Calls.mono (HT2.out k2) ?_
      rintro e w3 ⟨rfl, k3, rfl⟩
      refine ⟨_, rfl, ⟨kp_cell (kp_drewN _ k3) c0, kp_cell (kp_drewN _ k3) c1', kp_cell (kp_drewN _ k3) c2', kp_cell (kp_drewN _ k3) c3, kp_cell (kp_drewN _ k3) c4, kp_cell (kp_drewN _ k3) c5⟩, fun hHeld => ?_⟩
      try simp only [Act.put, List.setIfInBounds_toArray, List.set_cons_zero, List.set_cons_succ]
      refine takeAt 37 (some 54) ?_ rfl rfl (by kernel_rfl) (by kernel_rfl) (by kernel_rfl) (fun _ _ _ h => h) (Or.inl ⟨by rfl, ?_⟩) hHeld ?_
      rotate_left
      · intro w hSw
        go_simp <;> with_reducible rfl
      try simp only [Act.put, List.setIfInBounds_toArray, List.set_cons_zero, List.set_cons_succ]
      refine takeAt 38 (some 55) ?_ rfl rfl (by kernel_rfl) (by kernel_rfl) (by kernel_rfl) (fun _ _ _ h => h) (Or.inl ⟨by rfl, ?_⟩) hHeld ?_
      rotate_left
      · intro w hSw
        go_simp <;> with_reducible rfl
      try simp only [Act.put, List.setIfInBounds_toArray, List.set_cons_zero, List.set_cons_succ]
      refine wpAnyH_done (by kernel_rfl) ?_ _
      refine NoPanic.normal ?_
      go_wp2_with fail
      go_roundw
      case rel => exact ⟨i + 1, by omega, by go_num, q + k3, by rw [← HW.out, drew2]⟩
      case measure => simp only [intOf]; omega
    · obtain rfl : i = n := by omega
      have hdl : decide ((i : Int) < (i : Int)) = false := by simp
      go_wp2_with fail
      go_ret
      exact ⟨rfl, _, rfl⟩
end Go.Proofs.Ytehghbinjfkhgaa
/- Changes and calls that are handed in. -/
namespace Go.Proofs.Ytehghbinjfkhgaa
open Go.ChangeShapes Go.WideShapes Go.ChangeAt Go.RowKit
set_option linter.unusedVariables false
set_option linter.unusedSimpArgs false
set_option maxRecDepth 100000
def Anyw (_ : Nat) : Prop := True
theorem fU8 {a : Int} (w : (Lit.int .u8 a).wf = true) : 0 ≤ a ∧ a < 256 := by
  have h : (decide (IntKind.u8.min ≤ a) && decide (a ≤ IntKind.u8.max)) = true := w
  rw [Bool.and_eq_true, decide_eq_true_eq, decide_eq_true_eq] at h
  have e1 : IntKind.u8.min = 0 := by decide
  have e2 : IntKind.u8.max = 255 := by decide
  omega
theorem underDelta : (Try.prog.underlying 35).map (fun | .struct fs => fs.toList.map (fun f => (f.type, f.offset)) | _ => []) = some [(3, 0), (33, 1), (33, 2)] := by kernel_rfl
theorem underOp : (Try.prog.underlying 45).map (fun | .struct fs => fs.toList.map (fun f => (f.type, f.offset)) | _ => []) = some [(5, 0), (3, 1), (25, 2)] := by kernel_rfl
theorem cDelta : Try.prog.cellsOf 35 = 3 := by kernel_rfl
theorem cOp : Try.prog.cellsOf 45 = 3 := by kernel_rfl
theorem cInt : Try.prog.cellsOf 3 = 1 := by kernel_rfl
theorem cDeltas : Try.prog.cellsOf 25 = 1 := by kernel_rfl
theorem cUB : Try.prog.cellsOf 5 = 1 := by kernel_rfl
theorem cStr : Try.prog.cellsOf 9 = 1 := by kernel_rfl
theorem cStrs : Try.prog.cellsOf 33 = 1 := by kernel_rfl
theorem bulk_mem {H : Type} {d : DataW H} {l : List (DataW H)} (h : d ∈ l) : Rows.uptoBulk d ≤ Rows.uptoBulkAll l := by
  induction l with
  | nil => cases h
  | cons x r ih =>
    simp only [Rows.uptoBulkAll]
    cases List.mem_cons.1 h with
    | inl e => subst e; omega
    | inr e => have := ih e; omega
theorem bulk_of {H : Type} {l : List (DataW H)} (hk : Rows.uptoSmall H l = true) {j : Nat} {d : DataW H} (hd : l[j]? = some d) : Rows.uptoBulk d ≤ 1048576 := by
  have h : Rows.uptoBulkAll l ≤ 1048576 := of_decide_eq_true hk
  have := bulk_mem (List.mem_of_getElem? hd)
  omega
theorem bulk_one {H : Type} (x : DataW H) : 1 ≤ Rows.uptoBulk x := by
  cases x with
  | lit l => cases l <;> simp [Rows.uptoBulk]
  | _ => simp [Rows.uptoBulk]
theorem bulk_sum {H : Type} (D : Nat → DataW H) (w : Nat → Nat) : ∀ l : List Nat, (∀ i ∈ l, w i ≤ Rows.uptoBulk (D i)) → (l.map w).sum ≤ Rows.uptoBulkAll (l.map D)
  | [], _ => by simp
  | a :: r, h => by
    have h1 := h a (by simp)
    have h2 := bulk_sum D w r fun i hi => h i (by simp [hi])
    simp only [List.map_cons, List.sum_cons, Rows.uptoBulkAll]
    omega
theorem bulk_len {H : Type} (l : List (DataW H)) : l.length ≤ Rows.uptoBulkAll l := by
  induction l with
  | nil => simp
  | cons x r ih =>
    have := bulk_one x
    simp only [Rows.uptoBulkAll, List.length_cons]; omega
theorem lines_cells {H : Type} {enc : TypeId × Value → H} {W : World} {fuel : Nat} {v : Value} {d : DataW H} {p : List MemPlace} (h : DataW.trod enc Try.prog W 0 (fun _ => true) true fuel 33 [v] = some (d, p)) :
    ∃ ls, Sl Anyw v ls W ∧ ls.length + 1 ≤ Rows.uptoBulk d := by
  rcases Deep.open_strs Try.underlying33 Try.underlying9 cStr h with ⟨hcs, hx⟩ | ⟨a, len, cap, m, Sx, hcs, _, hl, hm, hmm, hx, hcell⟩
  · simp only [List.cons.injEq, and_true] at hcs
    subst hcs
    exact ⟨[], Sl.nil _ _, bulk_one d⟩
  · simp only [List.cons.injEq, and_true] at hcs
    subst hcs
    simp only [if_true] at hmm
    subst hmm
    simp only [Prod.mk.injEq] at hx
    refine ⟨(List.range len).map Sx, ⟨some a, m, by simp, by simpa using hl, hm, (fun e => by cases e), fun i s hi => ?_⟩, ?_⟩
    · simp only [List.getElem?_map, Option.map_eq_some_iff] at hi
      obtain ⟨k, hk, rfl⟩ := hi
      obtain ⟨hlt, hk⟩ := List.getElem?_eq_some_iff.1 hk
      simp at hk hlt
      subst hk
      obtain ⟨b, off, spot⟩ := a
      have hspot : spot = none := by simpa [Addr.add] using World.cell?_spot (hcell 0 (by omega)).1
      subst hspot
      refine ⟨b, off, rfl, trivial, ?_⟩
      have := (hcell i (by omega)).1
      rw [add2] at this
      exact this
    · rw [hx.1]
      simp only [Rows.uptoBulk]
      have := bulk_len ((List.range len).map fun i => (DataW.lit (.string (Sx i).data.toList) : DataW H))
      simp only [List.length_map, List.length_range] at this ⊢
      omega
/-- What a change weighs. -/
def wD (d : Dl) : Nat := 1 + d.old.length + d.nw.length
theorem delta_cells {H : Type} {enc : TypeId × Value → H} {W : World} {fuel : Nat} {cs : List Value} {x : DataW H × List MemPlace} (h : DataW.trod enc Try.prog W 0 (fun _ => true) true fuel 35 cs = some x) :
    ∃ (c : Dv) (d : Dl), cs = [.int .i64 c.a, c.x, c.y] ∧ c.a = d.at_ ∧ Sl Anyw c.x d.old W ∧ Sl Anyw c.y d.nw W ∧ wD d ≤ Rows.uptoBulk x.1 := by
  have hu := underDelta
  rw [Option.map_eq_some_iff] at hu
  obtain ⟨ty, hty, hfs⟩ := hu
  match ty, hty, hfs with
  | .struct fs, hty, hfs =>
    simp only at hfs
    obtain ⟨xs, n, _, rfl, hcl, hxl, hf⟩ := DataW.trod_struct hty h
    rw [cDelta] at hcl
    match cs, hcl with
    | [k0, k1, k2], _ =>
      obtain ⟨fl⟩ := fs
      match fl, hfs with
      | [f0, f1, f2], hfs =>
        simp only [List.map_cons, List.map_nil, List.cons.injEq, Prod.mk.injEq, and_true] at hfs
        obtain ⟨⟨t0, o0⟩, ⟨t1, o1⟩, ⟨t2, o2⟩⟩ := hfs
        match xs, hxl with
        | [y0, y1, y2], _ =>
          have g0 := hf 0 f0 rfl
          have g1 := hf 1 f1 rfl
          have g2 := hf 2 f2 rfl
          rw [t0, o0, cInt] at g0
          rw [t1, o1, cStrs] at g1
          rw [t2, o2, cStrs] at g2
          obtain ⟨a0, e0, r0, w0⟩ := DataW.trod_int Try.underlying3 g0
          have g1' : DataW.trod enc Try.prog W 0 (fun _ => true) true n 33 [k1] = some (y1.1, y1.2) := g1
          have g2' : DataW.trod enc Try.prog W 0 (fun _ => true) true n 33 [k2] = some (y2.1, y2.2) := g2
          obtain ⟨l1, h1, h2⟩ := lines_cells g1'
          obtain ⟨l2, h3, h4⟩ := lines_cells g2'
          simp at e0
          refine ⟨⟨a0, k1, k2⟩, ⟨a0, l1, l2⟩, by rw [e0], rfl, h1, h3, ?_⟩
          show wD ⟨a0, l1, l2⟩ ≤ Rows.uptoBulk (DataW.agg [y0.1, y1.1, y2.1] : DataW H)
          simp only [Rows.uptoBulk, Rows.uptoBulkAll, wD]
          omega
/-- Changes that are handed in: they lie below B. -/
abbrev DArg (B : Nat) (v : Value) (ds : List Dl) (w : World) : Prop := Dr (fun k => k < B) (Sl fun k => k < B) v ds w
theorem DArg.below {B : Nat} {v : Value} {ds : List Dl} {w w1 : World} (h : DArg B v ds w) (k : Below B w w1) : DArg B v ds w1 := by
  obtain ⟨a, cap, cs, rfl, h1, h2, h3, h4, h5⟩ := h
  have sl : ∀ v ls, Sl (fun k => k < B) v ls w → Sl (fun k => k < B) v ls w1 := fun v ls q => by
    obtain ⟨a, cap, rfl, q1, q2, q3, q4⟩ := q
    refine ⟨a, cap, rfl, q1, q2, q3, fun i s hi => ?_⟩
    obtain ⟨g, o, e, p, c⟩ := q4 i s hi
    exact ⟨g, o, e, p, by rw [World.cell?_of_block (k.block g p)]; exact c⟩
  refine ⟨a, cap, cs, rfl, h1, h2, h3, fun j u hj => ?_, h5.imp sl⟩
  obtain ⟨g, o, e, p, c⟩ := h4 j u hj
  exact ⟨g, o, e, p, by rw [World.cell?_of_block (k.block g p)]; exact c⟩
theorem dels_cells {H : Type} {enc : TypeId × Value → H} {W : World} {fuel : Nat} {v : Value} {d : DataW H} {p : List MemPlace} (h : DataW.trod enc Try.prog W 0 (fun _ => true) true fuel 25 [v] = some (d, p)) :
    ∃ ds, DArg W.heap.size v ds W ∧ (ds.map wD).sum + 1 ≤ Rows.uptoBulk d := by
  rcases Deep.open_slice Try.underlying25 h with ⟨hcs, hx⟩ | ⟨a, len, cap, m, n, D, Pl, hcs, _, hl, hm, hmm, hx, hcell⟩
  · simp only [List.cons.injEq, and_true] at hcs
    subst hcs
    exact ⟨[], ⟨none, 0, [], rfl, by simp, by simp [maxLen], (fun _ => rfl), (fun j u hj => by cases hj), rfl, fun i d c hi => by cases hi⟩, bulk_one d⟩
  · simp only [List.cons.injEq, and_true] at hcs
    subst hcs
    simp only [if_true] at hmm
    subst hmm
    simp only [Prod.mk.injEq] at hx
    rw [cDelta] at hcell
    have each : ∀ i, i < m → ∃ o : Dv × Dl, (∀ (j : Nat) c, [Value.int .i64 o.1.a, o.1.x, o.1.y][j]? = some c → W.cell? ((a.add (i * 3)).add j) = some c) ∧ o.1.a = o.2.at_ ∧ Sl Anyw o.1.x o.2.old W ∧ Sl Anyw o.1.y o.2.nw W ∧ wD o.2 ≤ Rows.uptoBulk (D i) := fun i hi => by
      obtain ⟨cs', h1, h2⟩ := hcell i hi
      obtain ⟨c, d, e, r1⟩ := delta_cells h2
      obtain ⟨_, hlen, hc⟩ := World.cells?_some h1
      refine ⟨(c, d), fun j u hj => ?_, r1⟩
      rw [hc j (by have := (List.getElem?_eq_some_iff.1 hj).1; simpa using this), e]; exact hj
    haveI : Inhabited (Dv × Dl) := ⟨(⟨0, .slice none 0 0, .slice none 0 0⟩, ⟨0, [], []⟩)⟩
    obtain ⟨F, hF⟩ := Deep.choose_lt each
    have sl : ∀ {v ls}, Sl Anyw v ls W → Sl (fun k => k < W.heap.size) v ls W := fun q => q.mono fun k hk _ => hk
    refine ⟨(List.range len).map fun i => (F i).2, ⟨some a, m, (List.range len).map fun i => (F i).1, by simp, by simpa using hl, hm, (fun e => by cases e), fun j u hj => ?_, by simp, fun i d c h1 h2 => ?_⟩, ?_⟩
    · obtain ⟨b, off, spot⟩ := a
      have hjl := (List.getElem?_eq_some_iff.1 hj).1
      rw [flatV_len, List.length_map, List.length_range] at hjl
      have hs : spot = none := by simpa [Addr.add] using World.cell?_spot ((hF 0 (by omega)).1 0 _ rfl)
      subst hs
      have hi : j / 3 < len := by omega
      have q := (hF (j / 3) (by omega)).1
      have e : ∀ k, ((⟨b, off, none⟩ : Addr).add (j / 3 * 3)).add k = ⟨b, off + j / 3 * 3 + k, none⟩ := fun k => by rw [add2, add2]
      have hg : ((List.range len).map fun i => (F i).1)[j / 3]? = some (F (j / 3)).1 := by simp [hi]
      obtain ⟨p0, p1, p2⟩ := flatV_at hg
      have hcase : W.cell? ⟨b, off + j, none⟩ = some u := by
        rcases Nat.lt_or_ge (j % 3) 1 with r | r
        · have e3 : j = 3 * (j / 3) := by omega
          rw [e3] at hj; rw [p0] at hj; cases hj
          have := q 0 _ rfl; rw [e] at this; rw [show off + j = off + j / 3 * 3 + 0 by omega]; exact this
        · rcases Nat.lt_or_ge (j % 3) 2 with r2 | r2
          · have e3 : j = 3 * (j / 3) + 1 := by omega
            rw [e3] at hj; rw [p1] at hj; cases hj
            have := q 1 _ rfl; rw [e] at this; rw [show off + j = off + j / 3 * 3 + 1 by omega]; exact this
          · have e3 : j = 3 * (j / 3) + 2 := by omega
            rw [e3] at hj; rw [p2] at hj; cases hj
            have := q 2 _ rfl; rw [e] at this; rw [show off + j = off + j / 3 * 3 + 2 by omega]; exact this
      exact ⟨b, off, rfl, World.block_lt_of_cell? _ _ hcase, hcase⟩
    · simp only [List.getElem?_map, Option.map_eq_some_iff] at h1 h2
      obtain ⟨k, hk, rfl⟩ := h1
      obtain ⟨k', hk', rfl⟩ := h2
      rw [hk] at hk'; cases hk'
      obtain ⟨hlt, hk⟩ := List.getElem?_eq_some_iff.1 hk
      simp at hk hlt
      subst hk
      have q := hF i (by omega)
      exact ⟨q.2.1, sl q.2.2.1, sl q.2.2.2.1⟩
    · rw [hx.1]
      simp only [Rows.uptoBulk]
      have := bulk_sum D (fun i => wD (F i).2) (List.range len) fun i hi => (hF i (by have := List.mem_range.1 hi; omega)).2.2.2.2
      rw [List.map_map]
      have e : (wD ∘ fun i => (F i).2) = fun i => wD (F i).2 := rfl
      rw [e]
      omega
theorem dels_form {H : Type} {enc : TypeId × Value → H} {W : World} {base : Nat} {v : Value} {d : DataW H} {p : List MemPlace} (hval : Value.okWide Try.prog W .any base 25 v) (h : DataW.Trod enc Try.prog W 0 (fun _ => true) true 25 v d p) :
    ∃ ds, DArg W.heap.size v ds W ∧ (ds.map wD).sum + 1 ≤ Rows.uptoBulk d := by
  obtain ⟨a0, len0, cap0, rfl⟩ := okWide_slice Try.underlying25 hval
  obtain ⟨fuel, hf⟩ := h
  exact dels_cells hf
/-- A call that is handed in. -/
structure Op12 where
  kd : Nat
  n : Int
  v : Value
  ds : List Dl
/-- Calls that are handed in. -/
def OpL (B : Nat) (v : Value) (l : List Op12) (w : World) : Prop :=
  ∃ a cap, v = .slice a l.length cap ∧ l.length ≤ cap ∧ cap ≤ maxLen ∧ ∀ (i : Nat) (o : Op12), l[i]? = some o → ∃ g off, a = some ⟨g, off, none⟩ ∧ g < B ∧ w.cell? ⟨g, off + i * 3, none⟩ = some (.int .u8 o.kd) ∧ w.cell? ⟨g, off + i * 3 + 1, none⟩ = some (.int .i64 o.n) ∧ w.cell? ⟨g, off + i * 3 + 2, none⟩ = some o.v ∧ DArg B o.v o.ds w
theorem OpL.below {B : Nat} {v : Value} {l : List Op12} {w w1 : World} (h : OpL B v l w) (k : Below B w w1) : OpL B v l w1 := by
  obtain ⟨a, cap, rfl, h1, h2, h3⟩ := h
  refine ⟨a, cap, rfl, h1, h2, fun i o hi => ?_⟩
  obtain ⟨g, off, e, p, c0, c1, c2, q⟩ := h3 i o hi
  have e1 : ∀ j, w1.cell? ⟨g, j, none⟩ = w.cell? ⟨g, j, none⟩ := fun j => World.cell?_of_block (k.block g p)
  exact ⟨g, off, e, p, by rw [e1]; exact c0, by rw [e1]; exact c1, by rw [e1]; exact c2, q.below k⟩
theorem fI64 {a : Int} (w : (Lit.int .i64 a).wf = true) : -9223372036854775808 ≤ a ∧ a < 9223372036854775808 := by
  have h : (decide (IntKind.i64.min ≤ a) && decide (a ≤ IntKind.i64.max)) = true := w
  rw [Bool.and_eq_true, decide_eq_true_eq, decide_eq_true_eq] at h
  have e1 : IntKind.i64.min = -9223372036854775808 := by decide
  have e2 : IntKind.i64.max = 9223372036854775807 := by decide
  omega
theorem op_cells {H : Type} {enc : TypeId × Value → H} {W : World} {fuel : Nat} {cs : List Value} {x : DataW H × List MemPlace} (h : DataW.trod enc Try.prog W 0 (fun _ => true) true fuel 45 cs = some x) :
    ∃ o : Op12, cs = [.int .u8 o.kd, .int .i64 o.n, o.v] ∧ o.kd < 256 ∧ (-9223372036854775808 ≤ o.n ∧ o.n < 9223372036854775808) ∧ DArg W.heap.size o.v o.ds W ∧ (o.ds.map wD).sum ≤ Rows.uptoBulk x.1 := by
  have hu := underOp
  rw [Option.map_eq_some_iff] at hu
  obtain ⟨ty, hty, hfs⟩ := hu
  match ty, hty, hfs with
  | .struct fs, hty, hfs =>
    simp only at hfs
    obtain ⟨xs, n, _, rfl, hcl, hxl, hf⟩ := DataW.trod_struct hty h
    rw [cOp] at hcl
    match cs, hcl with
    | [k0, k1, k2], _ =>
      obtain ⟨fl⟩ := fs
      match fl, hfs with
      | [f0, f1, f2], hfs =>
        simp only [List.map_cons, List.map_nil, List.cons.injEq, Prod.mk.injEq, and_true] at hfs
        obtain ⟨⟨t0, o0⟩, ⟨t1, o1⟩, ⟨t2, o2⟩⟩ := hfs
        match xs, hxl with
        | [y0, y1, y2], _ =>
          have g0 := hf 0 f0 rfl
          have g1 := hf 1 f1 rfl
          have g2 := hf 2 f2 rfl
          rw [t0, o0, cUB] at g0
          rw [t1, o1, cInt] at g1
          rw [t2, o2, cDeltas] at g2
          obtain ⟨a0, e0, r0, w0⟩ := DataW.trod_int Try.underlying5 g0
          obtain ⟨a1, e1, r1, w1⟩ := DataW.trod_int Try.underlying3 g1
          have g2' : DataW.trod enc Try.prog W 0 (fun _ => true) true n 25 [k2] = some (y2.1, y2.2) := g2
          obtain ⟨ds, h1, h2⟩ := dels_cells g2'
          simp at e0 e1
          have u0 := fU8 w0
          refine ⟨⟨a0.toNat, a1, k2, ds⟩, ?_, by show a0.toNat < 256; omega, fI64 w1, h1, ?_⟩
          · simp only [Int.toNat_of_nonneg u0.1]
            rw [e0, e1]
          · show (ds.map wD).sum ≤ Rows.uptoBulk (DataW.agg [y0.1, y1.1, y2.1] : DataW H)
            simp only [Rows.uptoBulk, Rows.uptoBulkAll]
            omega
/-- What calls weigh. -/
def wO (l : List Op12) : Nat := (l.map fun o => (o.ds.map wD).sum).sum
theorem ops_form {H : Type} {enc : TypeId × Value → H} {W : World} {base : Nat} {v : Value} {d : DataW H} {p : List MemPlace} (hval : Value.okWide Try.prog W .any base 39 v) (h : DataW.Trod enc Try.prog W 0 (fun _ => true) true 39 v d p) :
    ∃ l : List Op12, OpL W.heap.size v l W ∧ (∀ o ∈ l, o.kd < 256 ∧ -9223372036854775808 ≤ o.n ∧ o.n < 9223372036854775808) ∧ wO l ≤ Rows.uptoBulk d ∧ l.length ≤ Rows.uptoBulk d := by
  obtain ⟨a0, len0, cap0, rfl⟩ := okWide_slice Try.underlying39 hval
  obtain ⟨fuel, hf⟩ := h
  rcases Deep.open_slice Try.underlying39 hf with ⟨hcs, hx⟩ | ⟨a, len, cap, m, n, D, Pl, hcs, _, hl, hm, hmm, hx, hcell⟩
  · simp [Value.cells] at hcs
    obtain ⟨rfl, rfl, rfl⟩ := hcs
    exact ⟨[], ⟨none, 0, rfl, by simp, by simp [maxLen], fun i t hi => by cases hi⟩, (fun o ho => by cases ho), by simp [wO], by simp⟩
  · simp [Value.cells] at hcs
    obtain ⟨rfl, rfl, rfl⟩ := hcs
    simp only [if_true] at hmm
    subst hmm
    simp only [Prod.mk.injEq] at hx
    rw [cOp] at hcell
    have each : ∀ i, i < m → ∃ o : Op12, (∀ (j : Nat) c, [Value.int .u8 o.kd, .int .i64 o.n, o.v][j]? = some c → W.cell? ((a.add (i * 3)).add j) = some c) ∧ o.kd < 256 ∧ (-9223372036854775808 ≤ o.n ∧ o.n < 9223372036854775808) ∧ DArg W.heap.size o.v o.ds W ∧ (o.ds.map wD).sum ≤ Rows.uptoBulk (D i) := fun i hi => by
      obtain ⟨cs', h1, h2⟩ := hcell i hi
      obtain ⟨o, e, r1⟩ := op_cells h2
      obtain ⟨_, hlen, hc⟩ := World.cells?_some h1
      refine ⟨o, fun j c hj => ?_, r1⟩
      rw [hc j (by have := (List.getElem?_eq_some_iff.1 hj).1; simpa using this), e]; exact hj
    haveI : Inhabited Op12 := ⟨⟨0, 0, .slice none 0 0, []⟩⟩
    obtain ⟨F, hF⟩ := Deep.choose_lt each
    refine ⟨(List.range len0).map F, ⟨some a, m, by simp, by simpa using hl, hm, fun i o hi => ?_⟩, fun o ho => ?_, ?_, ?_⟩
    · simp only [List.getElem?_map, Option.map_eq_some_iff] at hi
      obtain ⟨k, hk, rfl⟩ := hi
      obtain ⟨hlt, hk⟩ := List.getElem?_eq_some_iff.1 hk
      simp at hk hlt
      subst hk
      obtain ⟨b, off, spot⟩ := a
      have hs : spot = none := by simpa [Addr.add] using World.cell?_spot ((hF 0 (by omega)).1 0 _ rfl)
      subst hs
      have q := (hF i (by omega)).1
      have e : ∀ j, ((⟨b, off, none⟩ : Addr).add (i * 3)).add j = ⟨b, off + i * 3 + j, none⟩ := fun j => by rw [add2, add2]
      have z0 := q 0 _ rfl
      have z1 := q 1 _ rfl
      have z2 := q 2 _ rfl
      rw [e] at z0 z1 z2
      exact ⟨b, off, rfl, World.block_lt_of_cell? _ _ z0, z0, z1, z2, (hF i (by omega)).2.2.2.1⟩
    · obtain ⟨k, hk, rfl⟩ := List.mem_map.1 ho
      have hk' : k < len0 := by simpa using hk
      have q := hF k (by omega)
      exact ⟨q.2.1, q.2.2.1⟩
    · rw [hx.1]
      simp only [Rows.uptoBulk]
      have := bulk_sum D (fun i => ((F i).ds.map wD).sum) (List.range len0) fun i hi => (hF i (by have := List.mem_range.1 hi; omega)).2.2.2.2
      unfold wO
      rw [List.map_map]
      have e : ((fun o => (o.ds.map wD).sum) ∘ F) = fun i => ((F i).ds.map wD).sum := rfl
      rw [e]
      omega
    · rw [hx.1]
      simp only [Rows.uptoBulk, List.length_map, List.length_range]
      have := bulk_len ((List.range len0).map D)
      simp at this
      omega
end Go.Proofs.Ytehghbinjfkhgaa
/- Each call on both trees. -/
namespace Go.Proofs.Ytehghbinjfkhgaa
open Go.ChangeShapes Go.WideShapes Go.ChangeAt Go.RowKit Go.Maps Go.MapKept
set_option linter.unusedVariables false
set_option linter.unusedSimpArgs false
set_option maxRecDepth 100000
section
variable {B C r t : Nat} {m m' : Tr} {w w1 : World}
/-- Both trees tell the same. -/
structure Bt (B C t r : Nat) (m : Tr) (w : World) : Prop where
  tw : Tw B C t m w
  rw : Rw B C r m w
  inw : Inw m
  hB : B ≤ w.heap.size
  hC : C ≤ w.heap.size
  few : m.L.length ≤ 240
  nx : m.next ≤ 9000
/-- State 0 is the first. -/
def Rt0 (L : List St) : Prop := ∃ s, look L 0 = some s ∧ s.fr = -1
theorem rt0_led {L : List St} (l : List Int) (top : Int) (h : Rt0 L) : Rt0 (led L l top) := by
  obtain ⟨s, q1, q2⟩ := h
  obtain ⟨s', p1, p2⟩ := fr_led (y := top) l L 0 s q1
  exact ⟨s', p1, p2.trans q2⟩
theorem rt0_add {ds : List Dl} (I : Inv m) (h : Rt0 m.L) : Rt0 (addT m ds).L := by
  obtain ⟨s, q1, q2⟩ := h
  have hlt := I.lt
  refine ⟨_, by rw [addT_look I, if_neg (by omega), q1]; rfl, ?_⟩
  split
  · exact q2
  · exact q2
/-- What a step keeps. -/
structure Kps (m m' : Tr) : Prop where
  inw : Inw m'
  nx : m'.next = m.next
  mo : m'.most = m.most
  len : m'.L.length = m.L.length
  rt : Rt0 m.L → Rt0 m'.L
theorem Kps.refl (h : Inw m) : Kps m m := ⟨h, rfl, rfl, rfl, id⟩
theorem Kps.go (h : Inw m) {seq top : Int} {l1 l2 : List Int} (hm : Meet m.L m.now seq top l1 l2) (hs : look m.L seq ≠ none) : Kps m { m with L := led m.L l2 top, now := seq } := ⟨h.go hm hs, rfl, rfl, led_len _ _ _, rt0_led _ _⟩
/-- What a call of the document's comes to. -/
def Rst (g : FuncId) (xs : Array Value) (B C r : Nat) (m m' : Tr) (ds : List Dl) (err : Int) : Prop := ∀ w, Rw B C r m w → C ≤ w.heap.size → B ≤ w.heap.size → Calls Try.prog g xs w fun e w' => ∃ u, e = .returned (.tuple #[u, .int .i64 err]) ∧ GoneR B C r w u ds m' w'
/-- What both told. -/
def Alike (v u : Value) (w : World) : Prop := ∃ ds, Dw 0 v ds w ∧ Dw 0 u ds w
/-- What is left behind the document's call. -/
def Aft (g : FuncId) (xs : Array Value) (B C t r : Nat) (m : Tr) (w : World) (err : Int) (v : Value) (w1 : World) : Prop :=
  0 ≤ err ∧ err < 1000 ∧ (∀ b cs, Lc 45 b cs w → Lc 45 b cs w1) ∧ Calls Try.prog g xs w1 fun e w2 => ∃ u, e = .returned (.tuple #[u, .int .i64 err]) ∧ Alike v u w2 ∧ ∃ m', Kps m m' ∧ Bt B C t r m' w2 ∧ Below B w w2
theorem aft_of (h : Bt B C t r m w) {g : FuncId} {xs : Array Value} {v : Value} {ds : List Dl} {err : Int} (he : 0 ≤ err ∧ err < 1000) (q : Gone B C t w v ds m' w1) (kp : Kps m m') (hr : Rst g xs B C r m m' ds err) : Aft g xs B C t r m w err v w1 := by
  obtain ⟨q1, q2, q3⟩ := q
  have hs := q3.size
  refine ⟨he.1, he.2, fun b cs hb => hb.ff q3 (fun cur fr q => by rcases q with q | q <;> cases q), (hr w1 (h.rw.ff q3) (Nat.le_trans h.hC hs) (Nat.le_trans h.hB hs)).mono ?_⟩
  rintro e w2 ⟨u, rfl, p1, p2, p3⟩
  have hs2 := p3.size
  refine ⟨u, rfl, ⟨ds, (q1.ff p3 (tq_of (by decide) (by decide)) (tq_of (by decide) (by decide))).zero, p1.zero⟩, m', kp, ⟨q2.ffq p3, p2, kp.inw, by have := h.hB; omega, by have := h.hC; omega, by rw [kp.len]; exact h.few, by rw [kp.nx]; exact h.nx⟩, (q3.below h.hB).trans (p3.below (Nat.le_trans h.hB hs))⟩
theorem same_alike {v u : Value} (h : Alike v u w) : Calls Try.prog 20 #[v, u] w fun e w' => e = .returned (.bool true) ∧ ∃ q, w' = w.drewN q := by
  obtain ⟨ds, h1, h2⟩ := h
  exact same_eq (okRow 0 0) (okRow 0 0) h1.dr h2.dr
theorem gone_kp {v : Value} (h : Tw B C t m w) (k : Kp w w1) (hv : v = .slice none 0 0) : Gone B C t w v [] m w1 := by subst hv; exact ⟨Dx.nil _ _ _, h.kp k, Ff.kp k⟩
theorem goneR_kp {v : Value} (h : Rw B C r m w) (k : Kp w w1) (hv : v = .slice none 0 0) : GoneR B C r w v [] m w1 := by subst hv; exact ⟨Dx.nil _ _ _, h.kp k, Ff.kp k⟩
theorem undo_both (h : Bt B C t r m w) : Calls Try.prog 17 #[.pointer (some ⟨t, 0, none⟩)] w fun e w1 => ∃ v err, e = .returned (.tuple #[v, .int .u16 err]) ∧ Aft 41 #[.pointer (some ⟨r, 0, none⟩)] B C t r m w err v w1 := by
  have I := h.inw
  have F := I.inv.fam
  have hn := h.nx
  have hfw := h.few
  obtain ⟨s, hs⟩ := Option.ne_none_iff_exists'.1 I.inv.nw
  have hrg := rg_of (F.rg (by omega) I.inv.nw)
  by_cases he : s.fr = -1
  · refine (undo_end h.tw hrg hs he).mono ?_
    rintro e w' ⟨rfl, k, rfl⟩
    refine ⟨_, _, rfl, aft_of h ⟨by decide, by decide⟩ (gone_kp h.tw (kp_drewN _ _) rfl) (Kps.refl I) fun w2 h1 _ _ => ?_⟩
    refine (rundo_end h1 I.inv (by omega) hs he).mono ?_
    rintro e w' ⟨rfl, k⟩
    exact ⟨_, rfl, goneR_kp h1 k rfl⟩
  · refine (undo_any h.tw hrg hs he (F.few _ _ hs) (by decide)).mono ?_
    rintro e w' ⟨v, rfl, q⟩
    refine ⟨_, _, rfl, aft_of h ⟨by decide, by decide⟩ q ⟨I.up hs he, rfl, rfl, rfl, id⟩ fun w2 h1 _ hB => ?_⟩
    have := rundo_any h1 I.inv (by omega) hB hs he
    rw [I.same hs he] at this
    exact this
theorem redo_both (h : Bt B C t r m w) : Calls Try.prog 19 #[.pointer (some ⟨t, 0, none⟩)] w fun e w1 => ∃ v err, e = .returned (.tuple #[v, .int .u16 err]) ∧ Aft 42 #[.pointer (some ⟨r, 0, none⟩)] B C t r m w err v w1 := by
  have I := h.inw
  have F := I.inv.fam
  have hn := h.nx
  have hfw := h.few
  obtain ⟨s, hs⟩ := Option.ne_none_iff_exists'.1 I.inv.nw
  have hrg := rg_of (F.rg (by omega) I.inv.nw)
  by_cases he : s.on = -1
  · refine (redo_end h.tw hrg hs he).mono ?_
    rintro e w' ⟨rfl, k, rfl⟩
    refine ⟨_, _, rfl, aft_of h ⟨by decide, by decide⟩ (gone_kp h.tw (kp_drewN _ _) rfl) (Kps.refl I) fun w2 h1 _ _ => ?_⟩
    refine (rredo_end h1 I.inv (by omega) hs he).mono ?_
    rintro e w' ⟨rfl, k⟩
    exact ⟨_, rfl, goneR_kp h1 k rfl⟩
  · obtain ⟨s', hs', hf'⟩ := F.on _ _ hs he
    refine (redo_any h.tw hrg hs he (rg_of (F.rg (by omega) (by rw [hs']; simp))) hs' (F.few _ _ hs') (by decide)).mono ?_
    rintro e w' ⟨v, rfl, q⟩
    refine ⟨_, _, rfl, aft_of h ⟨by decide, by decide⟩ q ⟨I.down hs he, rfl, rfl, rfl, id⟩ fun w2 h1 _ hB => ?_⟩
    exact rredo_any h1 I.inv (by omega) hB hs he hs'
theorem went_aft (h : Bt B C t r m w) {g : FuncId} {xs : Array Value} {v : Value} {seq : Int} (hs : look m.L seq ≠ none) (q : Went B C t w v m seq w1)
    (hr : ∀ w, Rw B C r m w → C ≤ w.heap.size → B ≤ w.heap.size → Calls Try.prog g xs w fun e w' => ∃ u, e = .returned (.tuple #[u, .int .i64 0]) ∧ WentR B C r w u m seq w') : Aft g xs B C t r m w 0 v w1 := by
  obtain ⟨top, l1, l2, hm, q⟩ := q
  refine aft_of h ⟨by decide, by decide⟩ q (Kps.go h.inw hm hs) fun w2 h1 hC hB => ?_
  refine (hr w2 h1 hC hB).mono ?_
  rintro e w' ⟨u, rfl, top', l1', l2', hm', p⟩
  obtain ⟨rfl, rfl, rfl⟩ := h.inw.inv.fam.meet_one hm hm'
  exact ⟨u, rfl, p⟩
theorem go_both (h : Bt B C t r m w) {seq : Int} (hr : Rg seq) : Calls Try.prog 18 #[.pointer (some ⟨t, 0, none⟩), .int .i64 seq] w fun e w1 => ∃ v err, e = .returned (.tuple #[v, .int .u16 err]) ∧ Aft 43 #[.pointer (some ⟨r, 0, none⟩), .int .i64 seq] B C t r m w err v w1 := by
  have I := h.inw
  have F := I.inv.fam
  have hn := h.nx
  have hfw := h.few
  by_cases hs : look m.L seq = none
  · refine (go_none h.tw hr hs).mono ?_
    rintro e w' ⟨rfl, rfl⟩
    refine ⟨_, _, rfl, aft_of h ⟨by decide, by decide⟩ (gone_kp h.tw (Below.refl _ _) rfl) (Kps.refl I) fun w2 h1 _ _ => ?_⟩
    refine (rgo_none h1 (by omega) I.inv hs).mono ?_
    rintro e w' ⟨rfl, rfl⟩
    exact ⟨_, rfl, goneR_kp h1 (Below.refl _ _) rfl⟩
  · refine (go_any h.tw h.hC F (by omega) I.inv.nw hs).mono ?_
    rintro e w' ⟨v, rfl, q⟩
    exact ⟨_, _, rfl, went_aft h hs q fun w2 h1 hC hB => rgo_any h1 hC hB I (by omega) (by omega) hs⟩
theorem led_aft (h : Bt B C t r m w) {g : FuncId} {xs : Array Value} {v : Value} {err seq : Int} (he : 0 ≤ err ∧ err < 1000) (hs : err = 0 → look m.L seq ≠ none) (q : Led B C t w m err seq v w1)
    (hr : ∀ w, Rw B C r m w → C ≤ w.heap.size → B ≤ w.heap.size → Calls Try.prog g xs w fun e w' => ∃ u, e = .returned (.tuple #[u, .int .i64 err]) ∧ LedR B C r w m err seq u w') : Aft g xs B C t r m w err v w1 := by
  rcases q with ⟨h1, h2, h3⟩ | ⟨rfl, q⟩
  · refine aft_of h he (gone_kp h.tw h3 h2) (Kps.refl h.inw) fun w2 j1 hC hB => ?_
    refine (hr w2 j1 hC hB).mono ?_
    rintro e w' ⟨u, rfl, ⟨_, p1, p2⟩ | ⟨p, _⟩⟩
    · exact ⟨u, rfl, goneR_kp j1 p2 p1⟩
    · exact absurd p h1
  · refine went_aft h (hs rfl) q fun w2 j1 hC hB => ?_
    refine (hr w2 j1 hC hB).mono ?_
    rintro e w' ⟨u, rfl, ⟨p, _⟩ | ⟨_, p⟩⟩
    · exact absurd rfl p
    · exact ⟨u, rfl, p⟩
theorem later_both (h : Bt B C t r m w) (n : Int) : Calls Try.prog 15 #[.pointer (some ⟨t, 0, none⟩), .int .i64 n] w fun e w1 => ∃ v err, e = .returned (.tuple #[v, .int .u16 err]) ∧ Aft 45 #[.pointer (some ⟨r, 0, none⟩), .int .i64 n] B C t r m w err v w1 := by
  have I := h.inw
  have hn := h.nx
  have hfw := h.few
  obtain ⟨k, hk⟩ := idx_of I.inv.nw
  have hkl := (List.getElem?_eq_some_iff.1 hk).1
  rw [List.length_map] at hkl
  obtain ⟨err, seq, he, hs, hc⟩ : ∃ err seq : Int, (0 ≤ err ∧ err < 1000) ∧ (err = 0 → look m.L seq ≠ none) ∧ ((n < 1 ∧ err = 1) ∨ (1 ≤ n ∧ k + 1 = m.L.length ∧ err = 121) ∨ (1 ≤ n ∧ err = 0 ∧ ∃ j : Nat, min n ((m.L.length - (k + 1) : Nat) : Int) = (j : Int) + 1 ∧ (m.L.map St.seq)[k + 1 + j]? = some seq)) := by
    by_cases h1 : n < 1
    · exact ⟨1, 0, by decide, fun q => absurd q (by decide), .inl ⟨h1, rfl⟩⟩
    · by_cases h2 : k + 1 = m.L.length
      · exact ⟨121, 0, by decide, fun q => absurd q (by decide), .inr (.inl ⟨by omega, h2, rfl⟩)⟩
      · obtain ⟨j, hj⟩ : ∃ j : Nat, min n ((m.L.length - (k + 1) : Nat) : Int) = (j : Int) + 1 := ⟨(min n ((m.L.length - (k + 1) : Nat) : Int) - 1).toNat, by omega⟩
        have hlt : k + 1 + j < (m.L.map St.seq).length := by rw [List.length_map]; omega
        exact ⟨0, (m.L.map St.seq)[k + 1 + j], by decide, fun _ => look_ne.2 (List.getElem_mem hlt), .inr (.inr ⟨by omega, rfl, j, hj, List.getElem?_eq_getElem hlt⟩)⟩
  refine (later_any h.tw h.hC I.inv (by omega) (by omega) hk hc).mono ?_
  rintro e w' ⟨v, rfl, q⟩
  exact ⟨_, _, rfl, led_aft h he hs q fun w2 h1 hC hB => rlater_any h1 hC hB I (by omega) (by omega) hk hc⟩
theorem earlier_both (h : Bt B C t r m w) (n : Int) : Calls Try.prog 13 #[.pointer (some ⟨t, 0, none⟩), .int .i64 n] w fun e w1 => ∃ v err, e = .returned (.tuple #[v, .int .u16 err]) ∧ Aft 44 #[.pointer (some ⟨r, 0, none⟩), .int .i64 n] B C t r m w err v w1 := by
  have I := h.inw
  have hn := h.nx
  have hfw := h.few
  obtain ⟨k, hk⟩ := idx_of I.inv.nw
  have hkl := (List.getElem?_eq_some_iff.1 hk).1
  rw [List.length_map] at hkl
  have hrev : ∀ i : Nat, i < m.L.length → (m.L.map St.seq).reverse[m.L.length - 1 - i]? = (m.L.map St.seq)[i]? := fun i hi => by
    rw [List.getElem?_reverse (by rw [List.length_map]; omega), List.length_map]
    congr 1; omega
  have hk' : (m.L.map St.seq).reverse[m.L.length - 1 - k]? = some m.now := by rw [hrev k hkl, hk]
  obtain ⟨err, seq, he, hs, hc⟩ : ∃ err seq : Int, (0 ≤ err ∧ err < 1000) ∧ (err = 0 → look m.L seq ≠ none) ∧ ((n < 1 ∧ err = 1) ∨ (1 ≤ n ∧ k = 0 ∧ err = 121) ∨ (1 ≤ n ∧ err = 0 ∧ ∃ j : Nat, min n (k : Int) = (j : Int) + 1 ∧ (m.L.map St.seq)[k - (j + 1)]? = some seq)) := by
    by_cases h1 : n < 1
    · exact ⟨1, 0, by decide, fun q => absurd q (by decide), .inl ⟨h1, rfl⟩⟩
    · by_cases h2 : k = 0
      · exact ⟨121, 0, by decide, fun q => absurd q (by decide), .inr (.inl ⟨by omega, h2, rfl⟩)⟩
      · obtain ⟨j, hj⟩ : ∃ j : Nat, min n (k : Int) = (j : Int) + 1 := ⟨(min n (k : Int) - 1).toNat, by omega⟩
        have hlt : k - (j + 1) < (m.L.map St.seq).length := by rw [List.length_map]; omega
        exact ⟨0, (m.L.map St.seq)[k - (j + 1)], by decide, fun _ => look_ne.2 (List.getElem_mem hlt), .inr (.inr ⟨by omega, rfl, j, hj, List.getElem?_eq_getElem hlt⟩)⟩
  have hc' : (n < 1 ∧ err = 1) ∨ (1 ≤ n ∧ m.L.length - 1 - k + 1 = m.L.length ∧ err = 121) ∨ (1 ≤ n ∧ err = 0 ∧ ∃ j : Nat, min n ((m.L.length - (m.L.length - 1 - k + 1) : Nat) : Int) = (j : Int) + 1 ∧ (m.L.map St.seq).reverse[m.L.length - 1 - k + 1 + j]? = some seq) := by
    rcases hc with q | ⟨q1, q2, q3⟩ | ⟨q1, q2, j, q3, q4⟩
    · exact .inl q
    · exact .inr (.inl ⟨q1, by omega, q3⟩)
    · refine .inr (.inr ⟨q1, q2, j, ?_, ?_⟩)
      · rw [show m.L.length - (m.L.length - 1 - k + 1) = k by omega]; exact q3
      · rw [← q4, ← hrev (k - (j + 1)) (by omega)]
        congr 1; omega
  refine (earlier_any h.tw h.hC I.inv (by omega) (by omega) hk' hc').mono ?_
  rintro e w' ⟨v, rfl, q⟩
  exact ⟨_, _, rfl, led_aft h he hs q fun w2 h1 hC hB => rearlier_any h1 hC hB I (by omega) (by omega) hk hc⟩
theorem DArg.ff {T : Obj → Prop} {v : Value} {ds : List Dl} (h : DArg B v ds w) (k : Ff T B w w1) : DArg B v ds w1 := by
  obtain ⟨a, cap, cs, rfl, h1, h2, h3, h4, h5⟩ := h
  refine ⟨a, cap, cs, rfl, h1, h2, h3, fun j u hj => ?_, h5.imp fun v ls q => q.fr k fun g hg q => by obtain ⟨q, _⟩ := q; omega⟩
  obtain ⟨g, o, e, p, c⟩ := h4 j u hj
  exact ⟨g, o, e, p, by rw [World.cell?_of_block (k.block g (World.block_lt_of_cell? _ _ c) (fun q => by obtain ⟨q, _⟩ := q; omega))]; exact c⟩
/-- What is left behind the document's Add. -/
def AftA (B t r : Nat) (m : Tr) (dv : Value) (ds : List Dl) (w w1 : World) : Prop :=
  (∀ b cs, Lc 45 b cs w → Lc 45 b cs w1) ∧ ∀ z, Kp w1 z → Calls Try.prog 46 #[.pointer (some ⟨r, 0, none⟩), dv] z fun e w2 => e = .returned (.int .i64 m.next) ∧ Bt B w2.heap.size t r (addT m ds) w2 ∧ Below B w w2
theorem add_both (h : Bt B C t r m w) (hl : m.L.length ≤ 239) (hn : m.next ≤ 8999) (hm : (m.L.length : Int) + 1 ≤ m.most) {dv : Value} {ds : List Dl} (hd : DArg B dv ds w) (hf : Few 2000 ds) :
    Calls Try.prog 12 #[.pointer (some ⟨t, 0, none⟩), dv] w fun e w1 => e = .returned (.int .i64 m.next) ∧ AftA B t r m dv ds w w1 := by
  have I := h.inw
  refine (add_few h.tw I.inv.fam (by omega) I.inv.nodup I.inv.nw hm h.hB (okSl B) hd hf (by decide)).mono ?_
  rintro e w1 ⟨rfl, q1, q2⟩
  refine ⟨rfl, fun b cs hb => hb.ff q2 (fun cur fr q => by rcases q with q | q <;> cases q), fun z kz => ?_⟩
  have hs := q2.size
  have hz := kz.size
  have hB1 : B ≤ w1.heap.size := Nat.le_trans h.hB hs
  refine (radd_few ((h.rw.ff q2).kp kz) I.inv (by omega) (by omega) hm (Nat.le_trans hB1 hz) (okSl B) ((hd.below (q2.below h.hB)).below (kz.mono hB1)) ?_ ?_ hf (by decide)).mono ?_
  · intro v ls w w' hx k
    exact hx.fr k fun g hg q => by obtain ⟨q, _⟩ := q; omega
  · intro w w' k hx
    exact DArg.ff hx k
  rintro e w2 ⟨rfl, p1, p2⟩
  have hs2 := p2.size
  exact ⟨rfl, ⟨((q1.kp kz).ffq p2).up (by omega), p1, I.add hf, by omega, Nat.le_refl _, by rw [addT_len]; omega, by show m.next + 1 ≤ 9000; omega⟩, ((q2.below h.hB).trans (kz.mono hB1)).trans (p2.below (Nat.le_trans hB1 hz))⟩
end
end Go.Proofs.Ytehghbinjfkhgaa
/- A call on both. -/
namespace Go.Proofs.Ytehghbinjfkhgaa
open Go.ChangeShapes Go.WideShapes Go.ChangeAt Go.RowKit Go.Maps Go.MapKept
set_option linter.unusedVariables false
set_option linter.unusedSimpArgs false
set_option maxRecDepth 100000
section
variable {B C r t : Nat} {m m' : Tr} {w w1 : World}
/-- What a call leaves. -/
structure Stp (m m' : Tr) : Prop where
  nx : m'.next ≤ m.next + 1
  mo : m'.most = m.most
  len : m'.L.length ≤ m.L.length + 1
  rt : Rt0 m.L → Rt0 m'.L
theorem Kps.stp (h : Kps m m') : Stp m m' := ⟨by rw [h.nx]; omega, h.mo, by rw [h.len]; omega, h.rt⟩
theorem Bt.kp (h : Bt B C t r m w) (k : Kp w w1) : Bt B C t r m w1 := ⟨h.tw.kp k, h.rw.kp k, h.inw, Nat.le_trans h.hB k.size, Nat.le_trans h.hC k.size, h.few, h.nx⟩
def Dne (B t r : Nat) (m : Tr) (w w' : World) : Prop := ∃ C m', Bt B C t r m' w' ∧ Stp m m' ∧ Below B w w'
set_option maxHeartbeats 16000000 in
theorem does_any (h : Bt B C t r m w) (hl : m.L.length ≤ 199) (hn : m.next ≤ 8999) (hm : (m.L.length : Int) + 1 ≤ m.most) {kd n : Int} (hk0 : 0 ≤ kd) (hk1 : kd < 256) (hr : Rg n) {dv : Value} {ds : List Dl} (hd : DArg B dv ds w) (hf : Few 2000 ds) :
    Calls Try.prog 23 #[.pointer (some ⟨t, 0, none⟩), .pointer (some ⟨r, 0, none⟩), .agg #[.int .u8 kd, .int .i64 n, dv]] w fun e w' => e = .returned (.bool true) ∧ Dne B t r m w w' := by
  obtain ⟨W, hW⟩ : ∃ W, W = w.alloc (.cells #[.int .u8 kd, .int .i64 n, dv] 45) := ⟨_, rfl⟩
  have kW : Kp w W := by rw [hW]; exact kp_alloc _ _
  have lW : Lc 45 w.heap.size [.int .u8 kd, .int .i64 n, dv] W := by rw [hW]; exact Lc.new _ _ _
  have HB : Hid (Bt B C t r m W) := h.kp kW
  have HL : Hid (Lc 45 w.heap.size [.int .u8 kd, .int .i64 n, dv] W ∧ Kp w W ∧ DArg B dv ds W ∧ Few 2000 ds ∧ m.L.length ≤ 199 ∧ m.next ≤ 8999 ∧ (m.L.length : Int) + 1 ≤ m.most ∧ B ≤ w.heap.size) := ⟨lW, kW, hd.below (kW.mono h.hB), hf, hl, hn, hm, h.hB⟩
  have HW : Hid (W = w.alloc (.cells #[.int .u8 kd, .int .i64 n, dv] 45)) := hW
  have b0 := lW.at (j := 0) rfl
  have b1 := lW.at (j := 1) rfl
  have b2 := lW.at (j := 2) rfl
  obtain ⟨da, dn, dc, rfl⟩ : ∃ a n c, dv = .slice a n c := by obtain ⟨a, c, q, _⟩ := hd.form; exact ⟨a, _, c, q⟩
  clear h hl hn hm hd hf kW lW hW
  go_enter Try.func23, Try.ntmps23
  go_upto_region 1 with fail
  rw [← HW.out]
  clear HW
  rcases (by omega : kd % 9 = 3 ∨ kd % 9 = 4 ∨ kd % 9 = 5 ∨ kd % 9 = 6 ∨ kd % 9 = 7 ∨ kd % 9 = 8 ∨ kd % 9 < 3) with q | q | q | q | q | q | q
  · have d3 : (kd % 9 == 3) = true := by rw [q]; rfl
    have H1 : Hid _ := undo_both HB.out
    clear HB q
    go_wp2_with fail
    refine Calls.mono H1.out ?_
    rintro e w1 ⟨v1, err, rfl, he0, he1, hbx, hc⟩
    have HC : Hid _ := hc
    have lx := hbx _ _ HL.out.1
    have bb0 := lx.at (j := 0) rfl
    have bb1 := lx.at (j := 1) rfl
    have dE : (err == err) = true := beq_self_eq_true _
    clear H1 hc hbx lx
    go_wp2_with fail
    refine Calls.mono HC.out ?_
    rintro e w2 ⟨u1, rfl, al, m1, kps, bt, bl⟩
    have HS : Hid _ := same_alike al
    have H2 : Hid (Bt B C t r m1 w2 ∧ Kps m m1 ∧ Below B W w2) := ⟨bt, kps, bl⟩
    clear HC al bt kps bl
    go_wp2_with fail
    refine Calls.mono HS.out ?_
    rintro e w3 ⟨rfl, q3, rfl⟩
    clear HS
    go_wp2_with fail
    go_ret
    exact ⟨rfl, C, m1, H2.out.1.kp (kp_drewN _ _), H2.out.2.1.stp, ((HL.out.2.1.mono HL.out.2.2.2.2.2.2.2).trans H2.out.2.2).trans ((kp_drewN _ _).mono H2.out.1.hB)⟩
  · have d3 : (kd % 9 == 3) = false := by rw [q]; rfl
    have d4 : (kd % 9 == 4) = true := by rw [q]; rfl
    have H1 : Hid _ := redo_both HB.out
    clear HB q
    go_wp2_with fail
    refine Calls.mono H1.out ?_
    rintro e w1 ⟨v1, err, rfl, he0, he1, hbx, hc⟩
    have HC : Hid _ := hc
    have lx := hbx _ _ HL.out.1
    have bb0 := lx.at (j := 0) rfl
    have bb1 := lx.at (j := 1) rfl
    have dE : (err == err) = true := beq_self_eq_true _
    clear H1 hc hbx lx
    go_wp2_with fail
    refine Calls.mono HC.out ?_
    rintro e w2 ⟨u1, rfl, al, m1, kps, bt, bl⟩
    have HS : Hid _ := same_alike al
    have H2 : Hid (Bt B C t r m1 w2 ∧ Kps m m1 ∧ Below B W w2) := ⟨bt, kps, bl⟩
    clear HC al bt kps bl
    go_wp2_with fail
    refine Calls.mono HS.out ?_
    rintro e w3 ⟨rfl, q3, rfl⟩
    clear HS
    go_wp2_with fail
    go_ret
    exact ⟨rfl, C, m1, H2.out.1.kp (kp_drewN _ _), H2.out.2.1.stp, ((HL.out.2.1.mono HL.out.2.2.2.2.2.2.2).trans H2.out.2.2).trans ((kp_drewN _ _).mono H2.out.1.hB)⟩
  · have d3 : (kd % 9 == 3) = false := by rw [q]; rfl
    have d4 : (kd % 9 == 4) = false := by rw [q]; rfl
    have d5 : (kd % 9 == 5) = true := by rw [q]; rfl
    have H1 : Hid _ := go_both HB.out hr
    clear HB q
    go_wp2_with fail
    refine Calls.mono H1.out ?_
    rintro e w1 ⟨v1, err, rfl, he0, he1, hbx, hc⟩
    have HC : Hid _ := hc
    have lx := hbx _ _ HL.out.1
    have bb0 := lx.at (j := 0) rfl
    have bb1 := lx.at (j := 1) rfl
    have dE : (err == err) = true := beq_self_eq_true _
    clear H1 hc hbx lx
    go_wp2_with fail
    refine Calls.mono HC.out ?_
    rintro e w2 ⟨u1, rfl, al, m1, kps, bt, bl⟩
    have HS : Hid _ := same_alike al
    have H2 : Hid (Bt B C t r m1 w2 ∧ Kps m m1 ∧ Below B W w2) := ⟨bt, kps, bl⟩
    clear HC al bt kps bl
    go_wp2_with fail
    refine Calls.mono HS.out ?_
    rintro e w3 ⟨rfl, q3, rfl⟩
    clear HS
    go_wp2_with fail
    go_ret
    exact ⟨rfl, C, m1, H2.out.1.kp (kp_drewN _ _), H2.out.2.1.stp, ((HL.out.2.1.mono HL.out.2.2.2.2.2.2.2).trans H2.out.2.2).trans ((kp_drewN _ _).mono H2.out.1.hB)⟩
  · have d3 : (kd % 9 == 3) = false := by rw [q]; rfl
    have d4 : (kd % 9 == 4) = false := by rw [q]; rfl
    have d5 : (kd % 9 == 5) = false := by rw [q]; rfl
    have d6 : (kd % 9 == 6) = true := by rw [q]; rfl
    have H1 : Hid _ := earlier_both HB.out n
    clear HB q
    go_wp2_with fail
    refine Calls.mono H1.out ?_
    rintro e w1 ⟨v1, err, rfl, he0, he1, hbx, hc⟩
    have HC : Hid _ := hc
    have lx := hbx _ _ HL.out.1
    have bb0 := lx.at (j := 0) rfl
    have bb1 := lx.at (j := 1) rfl
    have dE : (err == err) = true := beq_self_eq_true _
    clear H1 hc hbx lx
    go_wp2_with fail
    refine Calls.mono HC.out ?_
    rintro e w2 ⟨u1, rfl, al, m1, kps, bt, bl⟩
    have HS : Hid _ := same_alike al
    have H2 : Hid (Bt B C t r m1 w2 ∧ Kps m m1 ∧ Below B W w2) := ⟨bt, kps, bl⟩
    clear HC al bt kps bl
    go_wp2_with fail
    refine Calls.mono HS.out ?_
    rintro e w3 ⟨rfl, q3, rfl⟩
    clear HS
    go_wp2_with fail
    go_ret
    exact ⟨rfl, C, m1, H2.out.1.kp (kp_drewN _ _), H2.out.2.1.stp, ((HL.out.2.1.mono HL.out.2.2.2.2.2.2.2).trans H2.out.2.2).trans ((kp_drewN _ _).mono H2.out.1.hB)⟩
  · have d3 : (kd % 9 == 3) = false := by rw [q]; rfl
    have d4 : (kd % 9 == 4) = false := by rw [q]; rfl
    have d5 : (kd % 9 == 5) = false := by rw [q]; rfl
    have d6 : (kd % 9 == 6) = false := by rw [q]; rfl
    have d7 : (kd % 9 == 7) = true := by rw [q]; rfl
    have H1 : Hid _ := later_both HB.out n
    clear HB q
    go_wp2_with fail
    refine Calls.mono H1.out ?_
    rintro e w1 ⟨v1, err, rfl, he0, he1, hbx, hc⟩
    have HC : Hid _ := hc
    have lx := hbx _ _ HL.out.1
    have bb0 := lx.at (j := 0) rfl
    have bb1 := lx.at (j := 1) rfl
    have dE : (err == err) = true := beq_self_eq_true _
    clear H1 hc hbx lx
    go_wp2_with fail
    refine Calls.mono HC.out ?_
    rintro e w2 ⟨u1, rfl, al, m1, kps, bt, bl⟩
    have HS : Hid _ := same_alike al
    have H2 : Hid (Bt B C t r m1 w2 ∧ Kps m m1 ∧ Below B W w2) := ⟨bt, kps, bl⟩
    clear HC al bt kps bl
    go_wp2_with fail
    refine Calls.mono HS.out ?_
    rintro e w3 ⟨rfl, q3, rfl⟩
    clear HS
    go_wp2_with fail
    go_ret
    exact ⟨rfl, C, m1, H2.out.1.kp (kp_drewN _ _), H2.out.2.1.stp, ((HL.out.2.1.mono HL.out.2.2.2.2.2.2.2).trans H2.out.2.2).trans ((kp_drewN _ _).mono H2.out.1.hB)⟩
  · have d3 : (kd % 9 == 3) = false := by rw [q]; rfl
    have d4 : (kd % 9 == 4) = false := by rw [q]; rfl
    have d5 : (kd % 9 == 5) = false := by rw [q]; rfl
    have d6 : (kd % 9 == 6) = false := by rw [q]; rfl
    have d7 : (kd % 9 == 7) = false := by rw [q]; rfl
    have d8 : (kd % 9 == 8) = true := by rw [q]; rfl
    have hx0 : 0 ≤ m.next := by have := HB.out.inw.inv.lt; omega
    have hx1 : m.next ≤ 8999 := HL.out.2.2.2.2.2.1
    have cN : W.cell? ⟨r, 3, none⟩ = some (.int .i64 m.next) := by obtain ⟨v, vs, h⟩ := HB.out.rw; exact h.box.at (j := 3) rfl
    clear q
    go_upto_region 22 with fail
    go_quiet (fail)
    have hkp := kp_drewN W nq
    generalize W.drewN nq = W1 at hkp ⊢
    generalize hx : max n 0 % (m.next + 1) = x
    have hxr : Rg x := by
      have h1 := Int.emod_nonneg (max n 0) (b := m.next + 1) (by omega)
      have h2 := Int.emod_lt_of_pos (max n 0) (b := m.next + 1) (by omega)
      exact rg_of ⟨by omega, by omega⟩
    have H1 : Hid _ := go_both (HB.out.kp hkp) hxr
    have HL1 : Hid (Lc 45 w.heap.size [.int .u8 kd, .int .i64 n, .slice da dn dc] W1 ∧ Kp w W1 ∧ B ≤ w.heap.size) := ⟨HL.out.1.kp hkp, kp_trans HL.out.2.1 hkp, HL.out.2.2.2.2.2.2.2⟩
    clear HB HL hx hxr hkp b0 b1 b2 cN
    go_wp2_with fail
    refine Calls.mono H1.out ?_
    rintro e w1 ⟨v1, err, rfl, he0, he1, hbx, hc⟩
    have HC : Hid _ := hc
    have lx := hbx _ _ HL1.out.1
    have bb0 := lx.at (j := 0) rfl
    have bb1 := lx.at (j := 1) rfl
    have dE : (err == err) = true := beq_self_eq_true _
    clear H1 hc hbx lx
    go_wp2_with fail
    refine Calls.mono HC.out ?_
    rintro e w2 ⟨u1, rfl, al, m1, kps, bt, bl⟩
    have HS : Hid _ := same_alike al
    have H2 : Hid (Bt B C t r m1 w2 ∧ Kps m m1 ∧ Below B W1 w2) := ⟨bt, kps, bl⟩
    clear HC al bt kps bl
    go_wp2_with fail
    refine Calls.mono HS.out ?_
    rintro e w3 ⟨rfl, q3, rfl⟩
    clear HS
    go_wp2_with fail
    go_ret
    exact ⟨rfl, C, m1, H2.out.1.kp (kp_drewN _ _), H2.out.2.1.stp, ((HL1.out.2.1.mono HL1.out.2.2).trans H2.out.2.2).trans ((kp_drewN _ _).mono H2.out.1.hB)⟩
  · have d3 : (kd % 9 == 3) = false := beq_eq_false_iff_ne.2 (by omega)
    have d4 : (kd % 9 == 4) = false := beq_eq_false_iff_ne.2 (by omega)
    have d5 : (kd % 9 == 5) = false := beq_eq_false_iff_ne.2 (by omega)
    have d6 : (kd % 9 == 6) = false := beq_eq_false_iff_ne.2 (by omega)
    have d7 : (kd % 9 == 7) = false := beq_eq_false_iff_ne.2 (by omega)
    have d8 : (kd % 9 == 8) = false := beq_eq_false_iff_ne.2 (by omega)
    have H1 : Hid _ := add_both (HB.out.kp (kp_drew W)) (by have := HL.out.2.2.2.2.1; omega) HL.out.2.2.2.2.2.1 HL.out.2.2.2.2.2.2.1 (HL.out.2.2.1.below ((kp_drew W).mono HB.out.hB)) HL.out.2.2.2.1
    have HK : Hid (Kp w W.drew ∧ B ≤ w.heap.size ∧ Lc 45 w.heap.size [.int .u8 kd, .int .i64 n, .slice da dn dc] W.drew ∧ Few 2000 ds ∧ Inv m) := ⟨kp_trans HL.out.2.1 (kp_drew W), HL.out.2.2.2.2.2.2.2, HL.out.1.kp (kp_drew W), HL.out.2.2.2.1, HB.out.inw.inv⟩
    have dN : (m.next == m.next) = true := beq_self_eq_true _
    clear q HB
    go_upto_region 5 with fail
    go_region_with (first | (go_at_call 12; refine Calls.mono H1.out ?_; rintro e w1 ⟨rfl, hbx, hc⟩; have bb2 := (hbx _ _ HK.out.2.2.1).at (j := 2) rfl; have HC : Hid _ := hc; clear hbx hc) | (go_at_call 46; refine Calls.mono (HC.out _ (Below.refl _ _)) ?_; rintro e w2 ⟨rfl, bt, bl⟩; have H2 : Hid _ := And.intro bt bl; clear bt bl HC) | (go_at_call 46; refine Calls.mono (HC.out _ (kp_drew _)) ?_; rintro e w2 ⟨rfl, bt, bl⟩; have H2 : Hid _ := And.intro bt bl; clear bt bl HC))
    all_goals
      go_wp2_with fail
      go_ret
      exact ⟨rfl, _, _, H2.out.1, ⟨Int.le_refl _, rfl, by rw [addT_len]; exact Nat.le_refl _, rt0_add HK.out.2.2.2.2⟩, (HK.out.1.mono HK.out.2.1).trans H2.out.2⟩
end
end Go.Proofs.Ytehghbinjfkhgaa
/- A heap of numbers in memory; what its methods are, called through an interface. -/
namespace Go.Proofs.Ytehghbinjfkhgaa
open Go.ChangeShapes Go.WideShapes Go.ChangeAt Go.RowKit Go.Maps Go.MapKept
set_option linter.unusedVariables false
set_option linter.unusedSimpArgs false
set_option maxRecDepth 100000
theorem mrow_len : (Try.prog.info? 94).map (fun i => (i.methods.find? (·.name == "Len")).map fun m => (m.path, m.func)) = some (some (#[⟨98, 0, true⟩], some (53, false))) := by kernel_rfl
theorem mrow_less : (Try.prog.info? 94).map (fun i => (i.methods.find? (·.name == "Less")).map fun m => (m.path, m.func)) = some (some (#[⟨98, 0, true⟩], some (114, false))) := by kernel_rfl
theorem mrow_swap : (Try.prog.info? 94).map (fun i => (i.methods.find? (·.name == "Swap")).map fun m => (m.path, m.func)) = some (some (#[⟨98, 0, true⟩], some (118, false))) := by kernel_rfl
theorem mrow_push : (Try.prog.info? 94).map (fun i => (i.methods.find? (·.name == "Push")).map fun m => (m.path, m.func)) = some (some (#[], some (116, true))) := by kernel_rfl
theorem mrow_pop : (Try.prog.info? 94).map (fun i => (i.methods.find? (·.name == "Pop")).map fun m => (m.path, m.func)) = some (some (#[], some (115, true))) := by kernel_rfl
theorem underLeast : (Try.prog.underlying 98).map (fun d => match d with | .struct fs => (fs[0]?).map fun f => (f.type, f.offset) | _ => none) = some (some (96, 0)) := by kernel_rfl
theorem run_find {t : TypeId} {name : String} {p : Array FieldStep} {f : FuncId} {ptr : Bool} (h : (Try.prog.info? t).map (fun i => (i.methods.find? (·.name == name)).map fun m => (m.path, m.func)) = some (some (p, some (f, ptr)))) (n : Nat) (v : Value) (w : World) :
    (method (n + 1) t v name).run Try.prog w = (do
      let (xt, x) ← follow p.toList t (.val v)
      pure (f, ← receiverAt xt x ptr (if p.isEmpty then some ((name.splitOn ".").getLastD name) else none)) : Sem (FuncId × Value)).run Try.prog w := by
  obtain ⟨i, hi, h1⟩ := Option.map_eq_some_iff.1 h
  obtain ⟨m, hm, h2⟩ := Option.map_eq_some_iff.1 h1
  obtain ⟨nm, sg, pp, ff⟩ := m
  simp only [Prod.mk.injEq] at h2
  obtain ⟨rfl, rfl⟩ := h2
  unfold method
  simp only [Sem.run_bind, show (typeInfo t).run Try.prog w = .ok i w by simp [typeInfo, hi], Result.andThen_ok, hm]
theorem run_m0 {name : String} {f : FuncId} (h : (Try.prog.info? 94).map (fun i => (i.methods.find? (·.name == name)).map fun m => (m.path, m.func)) = some (some (#[], some (f, true)))) (n : Nat) (ad : Addr) (w : World) :
    (method (n + 1) 94 (.pointer (some ad)) name).run Try.prog w = .ok (f, .pointer (some ad)) w := by
  rw [run_find h]
  simp [follow, receiverAt, Place.get, run_underlying Try.underlying94, Result.andThen]
theorem run_m1 {name : String} {f : FuncId} (h : (Try.prog.info? 94).map (fun i => (i.methods.find? (·.name == name)).map fun m => (m.path, m.func)) = some (some (#[⟨98, 0, true⟩], some (f, false)))) (n : Nat) {b : Nat} {w : World} {v : Value} (hv : w.cell? ⟨b, 0, none⟩ = some v) :
    (method (n + 1) 94 (.pointer (some ⟨b, 0, none⟩)) name).run Try.prog w = .ok (f, v) w := by
  obtain ⟨d, hd, h1⟩ := Option.map_eq_some_iff.1 underLeast
  cases d with
  | struct fs =>
    obtain ⟨x, hx, h2⟩ := Option.map_eq_some_iff.1 h1
    obtain ⟨t, o⟩ := Prod.mk.inj h2
    rw [run_find h]
    have hsz : (sizeOf x.type).run Try.prog w = .ok 1 w := by rw [t]; kernel_rfl
    have hag : (isAgg 96).run Try.prog w = .ok false w := by kernel_rfl
    have hld : (load ⟨b, 0, none⟩).run Try.prog w = .ok v w := by simp [hv]
    simp [follow, receiverAt, Place.get, run_underlying hd, run_underlying Try.underlying96, hx, Result.andThen, asAddr, fieldPlace, hsz, t, o, loadVar, hag, hld, addr_add]
  | _ => cases h1
end Go.Proofs.Ytehghbinjfkhgaa
/- Len, Less, Swap of a heap's numbers; Push. -/
namespace Go.Proofs.Ytehghbinjfkhgaa
open Go.ChangeShapes Go.WideShapes Go.ChangeAt Go.RowKit Go.Maps Go.MapKept
set_option linter.unusedVariables false
set_option linter.unusedSimpArgs false
set_option maxRecDepth 100000
/-- What a heap's calls turn of what was there. -/
def TH : Obj → Prop
  | .cells _ e _ => e = 98 ∨ e = 3
  | _ => False
/-- At h lies a heap's box, in it v, which reads as these numbers. -/
structure Hq (D h : Nat) (v : Value) (l : List Int) (w : World) : Prop where
  lh : D ≤ h
  box : Lc 98 h [v] w
  row : Ir D v l w
def Hw (D h : Nat) (l : List Int) (w : World) : Prop := ∃ v, Hq D h v l w
section
variable {D h : Nat} {v : Value} {l : List Int} {w w1 : World}
theorem Hq.kp (q : Hq D h v l w) (k : Kp w w1) : Hq D h v l w1 := ⟨q.lh, q.box.kp k, q.row.kp k⟩
theorem Hw.kp (q : Hw D h l w) (k : Kp w w1) : Hw D h l w1 := by obtain ⟨v, q⟩ := q; exact ⟨v, q.kp k⟩
theorem Hq.fr {S : Nat → Prop} (q : Hq D h v l w) (k : Fr S w w1) (hS : ∀ j cur e fr, S j → w.heap[j]? = some (.cells cur e fr) → e ≠ 98 ∧ e ≠ 3) : Hq D h v l w1 := by
  refine ⟨q.lh, q.box.fr k fun e => (hS h _ _ _ e q.box).1 rfl, row_fr q.row k fun j hj e => ?_⟩
  rcases q.row.2 with ⟨z, _⟩ | ⟨g, cap, cur, z, hb, hg, _⟩
  · rw [z] at hj; cases hj
  · rw [z] at hj; simp only [Value.ownBlock, Option.some.injEq] at hj; subst hj; exact (hS g _ _ _ e hg).2 rfl
theorem ir_cells (q : Ir D v l w) (hl : l ≠ []) : ∃ g c, v = .slice (some ⟨g, 0, none⟩) l.length c ∧ D ≤ g ∧ l.length ≤ c ∧ c ≤ maxLen ∧ (∀ i x, l[i]? = some x → w.cell? ⟨g, i, none⟩ = some (.int .i64 x)) ∧ (∀ j, w.frozen? ⟨g, j, none⟩ = false) := by
  rcases q.2 with ⟨_, e0⟩ | ⟨g, c, cur, e, hb, hg, p1, p2, p3, p4⟩
  · exact absurd (List.length_eq_zero_iff.1 e0) hl
  refine ⟨g, c, e, hb, p1, p2, fun i x hi => ?_, fun j => by simp [World.frozen?, hg]⟩
  have hil := (List.getElem?_eq_some_iff.1 hi).1
  have hz : (zcs l)[i]? = some (.int .i64 x) := by simp [zcs, hi]
  rw [cell_at hg, ← Array.getElem?_toList]
  rw [← p4, List.getElem?_take, if_pos (by omega)] at hz
  exact hz
theorem row_put {B n size g c j : Nat} {e : TypeId} {xs : List Value} {w : World} {u : Value} (h : w.ownsRow B e size (.slice (some ⟨g, 0, none⟩) n c) n xs) (hj : j < n * size) : (w.setCell ⟨g, j, none⟩ u).ownsRow B e size (.slice (some ⟨g, 0, none⟩) n c) n (xs.set j u) := by
  refine ⟨by rw [List.length_set]; exact h.1, ?_⟩
  rcases h.2 with ⟨e0, _⟩ | ⟨g', c', cur, e0, hb, hg, p1, p2, p3, p4⟩
  · cases e0
  cases e0
  refine .inr ⟨g, c, _, rfl, hb, heap_setCell hg, p1, p2, by simpa using p3, ?_⟩
  rw [Array.toList_setIfInBounds, List.take_set, p4]
theorem ir_set {g c i : Nat} (q : Ir D (.slice (some ⟨g, 0, none⟩) l.length c) l w) (hi : i < l.length) (x : Int) : Ir D (.slice (some ⟨g, 0, none⟩) l.length c) (l.set i x) (w.setCell ⟨g, i, none⟩ (.int .i64 x)) := by
  have h0 := row_put (u := .int .i64 x) q (j := i) (by omega)
  have e : (zcs l).set i (.int .i64 x) = zcs (l.set i x) := by simp [zcs, List.map_set]
  rw [e] at h0
  unfold Ir
  rw [List.length_set]
  exact h0
end
section
variable {D h : Nat} {v : Value} {l : List Int} {w w1 : World}
set_option maxHeartbeats 4000000 in
theorem len_any (a : Option Addr) (n c : Nat) (w : World) : Calls Try.prog 53 #[.slice a n c] w fun e w' => e = .returned (.int .i64 n) ∧ w' = w := by
  go_enter Try.func53, Try.ntmps53
  go_wp2
  go_ret
  exact ⟨rfl, rfl⟩
set_option maxHeartbeats 4000000 in
theorem less_any (q : Ir D v l w) (hl : l.length ≤ 1000) {i j : Nat} {x y : Int} (hi : l[i]? = some x) (hj : l[j]? = some y) : Calls Try.prog 114 #[v, .int .i64 i, .int .i64 j] w fun e w' => e = .returned (.bool (decide (x < y))) ∧ ∃ k, w' = w.drewN k := by
  have hil := (List.getElem?_eq_some_iff.1 hi).1
  have hjl := (List.getElem?_eq_some_iff.1 hj).1
  obtain ⟨g, c, rfl, _, hc1, hc2, hcl, _⟩ := ir_cells q (by rintro rfl; cases hi)
  have c1 := hcl _ _ hi
  have c2 := hcl _ _ hj
  have hiI : (i : Int) < (l.length : Int) := by omega
  have hjI : (j : Int) < (l.length : Int) := by omega
  generalize l.length = N at *
  clear q hcl hi hj
  go_enter Try.func114, Try.ntmps114
  go_wp2_with fail
  go_quiet (fail)
  go_wp2_with fail
  go_ret
  exact ⟨rfl, _, rfl⟩
set_option maxHeartbeats 8000000 in
theorem swap_any (q : Ir D v l w) (hl : l.length ≤ 1000) {i j : Nat} {x y : Int} (hi : l[i]? = some x) (hj : l[j]? = some y) : Calls Try.prog 118 #[v, .int .i64 i, .int .i64 j] w fun e w' => e = .returned (.tuple #[]) ∧ Ir D v ((l.set i y).set j x) w' ∧ Ff TH D w w' ∧ ∀ h u, Lc 98 h [u] w → Lc 98 h [u] w' := by
  have hil := (List.getElem?_eq_some_iff.1 hi).1
  have hjl := (List.getElem?_eq_some_iff.1 hj).1
  obtain ⟨g, c, rfl, hDg, hc1, hc2, hcl, hfz⟩ := ir_cells q (by rintro rfl; cases hi)
  have c1 := hcl _ _ hi
  have c2 := hcl _ _ hj
  have f1 := hfz i
  have f2 := hfz j
  have HP : Hid (∀ k, Ir D (.slice (some ⟨g, 0, none⟩) l.length c) ((l.set i y).set j x) (((w.setCell ⟨g, i, none⟩ (.int .i64 y)).setCell ⟨g, j, none⟩ (.int .i64 x)).drewN k) ∧ Ff TH D w (((w.setCell ⟨g, i, none⟩ (.int .i64 y)).setCell ⟨g, j, none⟩ (.int .i64 x)).drewN k) ∧ ∀ h u, Lc 98 h [u] w → Lc 98 h [u] (((w.setCell ⟨g, i, none⟩ (.int .i64 y)).setCell ⟨g, j, none⟩ (.int .i64 x)).drewN k)) := fun k => by
    have r1 := ir_set q (i := i) hil y
    have e1 : l.length = (l.set i y).length := by rw [List.length_set]
    rw [e1] at r1
    have r2 := ir_set (i := j) r1 (by rw [List.length_set]; exact hjl) x
    rw [← e1] at r2
    refine ⟨r2.kp (kp_drewN _ _), ?_, fun h u hb => ?_⟩
    rotate_left
    · have hn : h ≠ g := fun e => by have := row_ne q hb (by decide); rw [e] at this; exact this rfl
      exact ((hb.other (Ne.symm hn)).other (Ne.symm hn)).kp (kp_drewN _ _)
    have hg : ∃ cur fr, w.heap[g]? = some (.cells cur 3 fr) := by
      rcases q.2 with ⟨z, _⟩ | ⟨g', c', cur, e, hb, hg, _⟩
      · cases z
      · cases e; exact ⟨cur, _, hg⟩
    obtain ⟨cur, fr, hg⟩ := hg
    exact Ff.on (((fr_set g i (.int .i64 y) w).trans (fr_set g j (.int .i64 x) _)).trans (Fr.drewN _ _ _)) hDg hg (.inr rfl)
  have hiI : (i : Int) < (l.length : Int) := by omega
  have hjI : (j : Int) < (l.length : Int) := by omega
  have HIJ : i = j ∨ i ≠ j := by omega
  generalize l.length = N at *
  clear q hcl hi hj hfz
  rcases HIJ with rfl | hij
  · rw [c1] at c2; cases c2
    go_enter Try.func118, Try.ntmps118
    go_wp2_with fail
    go_region
    go_wp2_with fail
    go_end0
    exact ⟨rfl, HP.out 1⟩
  · have hji : j ≠ i := fun e => hij e.symm
    go_enter Try.func118, Try.ntmps118
    go_wp2_with fail
    go_region
    go_wp2_with fail
    go_end0
    exact ⟨rfl, HP.out 1⟩
end
end Go.Proofs.Ytehghbinjfkhgaa
/- A heap's Push. -/
namespace Go.Proofs.Ytehghbinjfkhgaa
open Go.ChangeShapes Go.WideShapes Go.ChangeAt Go.RowKit Go.Maps Go.MapKept
set_option linter.unusedVariables false
set_option linter.unusedSimpArgs false
set_option maxRecDepth 100000
theorem asInt (x : Int) (w : World) : (Instr.typeAssert (.iface 3 (.int .i64 x)) 20 3 false).run Try.prog w = .ok (.int .i64 x) w := by
  kernel_rfl
section
variable {D h : Nat} {v : Value} {l : List Int} {w w1 : World}
theorem Hq.grown (q : Hq D h v l w) {w2 : World} {v' : Value} {x : Int} (hr : w2.ownsRow D 3 1 v' (l.length + 1) (zcs l ++ [.int .i64 x])) (hg : w.grownBy w2 v.ownBlock) :
    Lc 98 h [v] w2 ∧ Hq D h v' (l ++ [x]) (w2.setCell ⟨h, 0, none⟩ v') ∧ Ff TH D w (w2.setCell ⟨h, 0, none⟩ v') := by
  have hb : Lc 98 h [v] w2 := q.box.fr (fr_grown hg) fun e => row_ne q.row q.box (by decide) e.symm
  have f0 : Ff TH D w w2 := Fr.mono (fr_grown hg) fun k _ e => by
    rcases q.row.2 with ⟨z, _⟩ | ⟨g, c, cur, z, hb, hgg, _⟩
    · rw [z] at e; cases e
    · rw [z] at e; simp only [Value.ownBlock, Option.some.injEq] at e; subst e; exact ⟨hb, _, hgg, .inr rfl⟩
  have f := fr_set h 0 v' w2
  refine ⟨hb, ⟨q.lh, hb.set 0 v', ?_⟩, f0.trans (Ff.on f q.lh hb (.inl rfl))⟩
  have e1 : zcs (l ++ [x]) = zcs l ++ [.int .i64 x] := by simp [zcs]
  unfold Ir
  rw [List.length_append, List.length_singleton, e1]
  exact row_fr hr f fun j hj e => row_ne hr hb (by decide) (by rw [hj, e])
set_option maxHeartbeats 8000000 in
theorem push_any (q : Hw D h l w) (hl : l.length ≤ 1000) (hD : D ≤ w.heap.size) (x : Int) :
    Calls Try.prog 116 #[.pointer (some ⟨h, 0, none⟩), .iface 3 (.int .i64 x)] w fun e w' => e = .returned (.tuple #[]) ∧ Hw D h (l ++ [x]) w' ∧ Ff TH D w w' := by
  obtain ⟨v, q⟩ := q
  obtain ⟨i9, hi9, z0, z1, z2⟩ := info_parts infoInt
  have c0 := q.box.at (j := 0) rfl
  obtain ⟨va, vc, rfl, v1, v2⟩ := q.row.form
  have HF : Hid (∀ w2 v', w2.ownsRow D 3 1 v' (l.length + 1) (zcs l ++ [.int .i64 x]) → (w.alloc (.cells #[.int .i64 x] 3)).drew.grownBy w2 (Value.slice va l.length vc).ownBlock →
      w2.cell? ⟨h, 0, none⟩ = some (.slice va l.length vc) ∧ w2.frozen? ⟨h, 0, none⟩ = false ∧ Hid (∀ k, Hw D h (l ++ [x]) ((w2.setCell ⟨h, 0, none⟩ v').drewN k) ∧ Ff TH D w ((w2.setCell ⟨h, 0, none⟩ v').drewN k))) := fun w2 v' x1 x2 => by
    obtain ⟨r1, r2, r3⟩ := (q.kp (kp_trans (kp_alloc w (.cells #[.int .i64 x] 3)) (kp_drew _))).grown x1 x2
    exact ⟨r1.at (j := 0) rfl, r1.fz 0, fun k => ⟨⟨v', r2.kp (kp_drewN _ _)⟩, ((Ff.kp (kp_trans (kp_alloc _ _) (kp_drew _))).trans r3).trans (Ff.kp (kp_drewN _ _))⟩⟩
  have HR : Hid ((w.alloc (.cells #[.int .i64 x] 3)).drew.ownsRow D 3 1 (.slice va l.length vc) l.length (zcs l)) := row_kp q.row (kp_trans (kp_alloc _ _) (kp_drew _))
  have HN0 : Hid (D ≤ (w.alloc (.cells #[.int .i64 x] 3)).drew.heap.size) := by have := alloc_size w (.cells #[.int .i64 x] 3); show D ≤ (w.alloc (.cells #[.int .i64 x] 3)).heap.size; omega
  have HSZ : Hid ((w.alloc (.cells #[.int .i64 x] 3)).drew.heap.size = w.heap.size + 1) := alloc_size _ _
  have HNW : Hid (∀ j u, ([.int .i64 x] : List Value)[j]? = some u → (w.alloc (.cells #[.int .i64 x] 3)).drew.cell? ((⟨w.heap.size, 0, none⟩ : Addr).add j) = some u) := fun j u hj => by rw [addr_add]; exact ((Lc.new w [.int .i64 x] 3).kp (kp_drew _)).at hj
  have c1 := kp_cell (kp_alloc w (.cells #[.int .i64 x] 3)) c0
  generalize l.length = N at *
  have hty := asInt x
  clear q v1 v2
  go_enter Try.func116, Try.ntmps116
  go_wp2_with fail
  go_region_law (refine step_append_lies _ rfl (.tmp 8) (.tmp 11) 96 rfl D 3 i9 _ 1 8 Try.underlying96 hi9 z0 z1 z2 rfl (by decide) (.slice va N vc) N (zcs l) rfl HR.out ⟨w.heap.size, 0, none⟩ 1 1 [.int .i64 x] rfl rfl HNW.out (by simp [Value.oneCell']) (by omega) (by unfold maxLen; omega) (by omega) HN0.out (w.heap.size + 1) HSZ.out ?_; intro g cp w2 q1 q2 q3 q4; obtain ⟨y1, y2, HE⟩ := HF.out w2 _ q1 q2; clear q1 q2 q3 q4)
  all_goals
    go_wp2_with fail
    go_end0
    exact ⟨rfl, HE.out 0⟩
end
end Go.Proofs.Ytehghbinjfkhgaa
/- A heap's up. -/
namespace Go.Proofs.Ytehghbinjfkhgaa
open Go.ChangeShapes Go.WideShapes Go.ChangeAt Go.RowKit Go.Maps Go.MapKept
set_option linter.unusedVariables false
set_option linter.unusedSimpArgs false
set_option maxRecDepth 100000
/-- While x goes up from the end of l0: it stands at j. -/
structure Sif (l0 : List Int) (x : Int) (l : List Int) (j : Nat) : Prop where
  len : l.length = l0.length + 1
  at_ : l[j]? = some x
  old : ∀ i y, i ≠ j → l[i]? = some y → y ∈ l0
  all : ∀ y ∈ l0, y ∈ l
  top : j ≠ 0 → l[0]? = l0[0]?
  low : j = 0 → ∀ y ∈ l0, x ≤ y
/-- The first one is the least of them. -/
def Hmin (l : List Int) : Prop := ∀ m, l[0]? = some m → ∀ y ∈ l, m ≤ y
section
variable {l0 l : List Int} {x : Int} {j : Nat}
theorem Sif.start (l0 : List Int) (x : Int) : Sif l0 x (l0 ++ [x]) l0.length := by
  refine ⟨by simp, by simp, fun i y hi h => ?_, fun y hy => by simp [hy], fun hj => ?_, fun hj y hy => ?_⟩
  · have hl := (List.getElem?_eq_some_iff.1 h).1
    simp at hl
    rw [List.getElem?_append_left (by omega)] at h
    exact List.mem_of_getElem? h
  · rw [List.getElem?_append_left (by omega)]
  · rw [List.length_eq_zero_iff.1 hj] at hy; cases hy
theorem Sif.mem (h : Sif l0 x l j) (y : Int) : y ∈ l ↔ y = x ∨ y ∈ l0 := by
  constructor
  · intro hy
    obtain ⟨i, hi⟩ := List.getElem?_of_mem hy
    by_cases q : i = j
    · subst q; rw [h.at_] at hi; cases hi; exact .inl rfl
    · exact .inr (h.old i y q hi)
  · rintro (rfl | hy)
    · exact List.mem_of_getElem? h.at_
    · exact h.all y hy
theorem Sif.top_end (h : Sif l0 x l 0) : Hmin l := fun m hm y hy => by
  rw [h.at_] at hm; cases hm
  rcases (h.mem y).1 hy with rfl | q
  · exact Int.le_refl _
  · exact h.low rfl y q
theorem Sif.mid_end (h : Sif l0 x l j) (hm0 : Hmin l0) (hj : j ≠ 0) {i : Nat} {y : Int} (hi : i ≠ j) (hy : l[i]? = some y) (hn : ¬ x < y) : Hmin l := fun m hm z hz => by
  rw [h.top hj] at hm
  have h1 := hm0 m hm y (h.old i y hi hy)
  rcases (h.mem z).1 hz with rfl | q
  · omega
  · exact hm0 m hm z q
theorem Sif.step (h : Sif l0 x l j) (hm0 : Hmin l0) (hj : j ≠ 0) {i : Nat} {y : Int} (hi : i ≠ j) (hy : l[i]? = some y) (hn : x < y) : Sif l0 x ((l.set i x).set j y) i := by
  have hjl := (List.getElem?_eq_some_iff.1 h.at_).1
  have hil := (List.getElem?_eq_some_iff.1 hy).1
  have g : ∀ k, ((l.set i x).set j y)[k]? = if k = j then some y else if k = i then some x else l[k]? := fun k => by
    by_cases q : k = j
    · subst q; rw [if_pos rfl, List.getElem?_set_self (by rw [List.length_set]; exact hjl)]
    · rw [if_neg q, List.getElem?_set_ne (Ne.symm q)]
      by_cases p : k = i
      · subst p; rw [if_pos rfl, List.getElem?_set_self hil]
      · rw [if_neg p, List.getElem?_set_ne (Ne.symm p)]
  refine ⟨by rw [List.length_set, List.length_set]; exact h.len, by rw [g, if_neg hi, if_pos rfl], fun k z hk hz => ?_, fun z hz => ?_, fun h0 => ?_, fun h0 z hz => ?_⟩
  · rw [g] at hz
    by_cases q : k = j
    · rw [if_pos q] at hz; cases hz; exact h.old i y hi hy
    · rw [if_neg q, if_neg hk] at hz; exact h.old k z q hz
  · obtain ⟨k, hk⟩ := List.getElem?_of_mem (h.all z hz)
    by_cases q : k = j
    · subst q; rw [h.at_] at hk; cases hk
      exact List.mem_of_getElem? (i := i) (by rw [g, if_neg hi, if_pos rfl])
    · by_cases p : k = i
      · subst p; rw [hy] at hk; cases hk
        exact List.mem_of_getElem? (i := j) (by rw [g, if_pos rfl])
      · exact List.mem_of_getElem? (i := k) (by rw [g, if_neg q, if_neg p]; exact hk)
  · rw [g, if_neg (Ne.symm hj), if_neg (Ne.symm h0)]; exact h.top hj
  · subst h0
    rw [h.top hj] at hy
    have := hm0 y hy z hz
    omega
end
section
variable {D h : Nat} {l0 l : List Int} {w w1 : World} {x : Int}
set_option maxHeartbeats 16000000 in
theorem up_heap (q : Hw D h l w) (hl : l.length ≤ 500) (hD : D ≤ w.heap.size) {j : Nat} (hs : Sif l0 x l j) (hm : Hmin l0) :
    Calls Try.prog 73 #[.iface 94 (.pointer (some ⟨h, 0, none⟩)), .int .i64 j] w fun e w' => e = .returned (.tuple #[]) ∧ ∃ l' j', Sif l0 x l' j' ∧ Hmin l' ∧ Hw D h l' w' ∧ Ff TH D w w' := by
  have H0 : Hid (Hw D h l w ∧ Sif l0 x l j ∧ l.length ≤ 500 ∧ D ≤ w.heap.size ∧ Hmin l0) := ⟨q, hs, hl, hD, hm⟩
  have hj : (j : Int) < 500 := by have := (List.getElem?_eq_some_iff.1 hs.at_).1; omega
  clear q hs hl hD hm
  go_enter Try.func73, Try.ntmps73
  go_wp2_with fail
  go_loopw [1] (fun v1 wr => ∃ (j : Nat) (l : List Int), v1 = .int .i64 j ∧ (j : Int) < 500 ∧ Hid (Hw D h l wr ∧ Sif l0 x l j ∧ l.length ≤ 500 ∧ D ≤ wr.heap.size ∧ Hmin l0 ∧ Ff TH D w wr)) (fun v1 _ => (intOf v1).toNat)
  case atStart => exact ⟨j, l, rfl, hj, H0.out.1, H0.out.2.1, H0.out.2.2.1, H0.out.2.2.2.1, H0.out.2.2.2.2, Ff.refl _ _ _⟩
  case round =>
    obtain ⟨j, l, rfl, hj, HI⟩ := hrel
    clear H0
    rcases Nat.eq_zero_or_pos j with p | p
    · subst p
      have HX : Hid (∃ l' j', Sif l0 x l' j' ∧ Hmin l' ∧ Hw D h l' wr ∧ Ff TH D w wr) := ⟨l, 0, HI.out.2.1, HI.out.2.1.top_end, HI.out.1, HI.out.2.2.2.2.2⟩
      clear HI
      go_wp2_with fail
      go_end0
      exact ⟨rfl, HX.out⟩
    · obtain ⟨k, rfl⟩ : ∃ k, j = k + 1 := ⟨j - 1, by omega⟩
      obtain ⟨i, hi⟩ : ∃ i, k / 2 = i := ⟨_, rfl⟩
      have hi2 : (k : Int) / 2 = (i : Int) := by omega
      have d1 : ((i : Int) == (k : Int) + 1) = false := beq_eq_false_iff_ne.2 (by omega)
      have hne : i ≠ k + 1 := by omega
      obtain ⟨v, hq⟩ := HI.out.1
      have c0 := hq.box.at (j := 0) rfl
      have hle := fun n => run_m1 mrow_less n c0
      have hjl := (List.getElem?_eq_some_iff.1 HI.out.2.1.at_).1
      obtain ⟨y, hy⟩ : ∃ y, l[i]? = some y := ⟨_, List.getElem?_eq_getElem (by omega)⟩
      have HL : Hid (Calls Try.prog 114 #[v, .int .i64 ((k : Int) + 1), .int .i64 i] wr fun e w' => e = .returned (.bool (decide (x < y))) ∧ ∃ k, w' = wr.drewN k) := less_any hq.row (by have := HI.out.2.2.1; omega) HI.out.2.1.at_ hy
      have HQ : Hid (Hq D h v l wr ∧ l[i]? = some y ∧ i ≠ k + 1) := ⟨hq, hy, hne⟩
      clear hq hy c0 hi hne hjl
      by_cases hxy : x < y
      · have d2 : decide (x < y) = true := decide_eq_true hxy
        have HX : Hid (∀ z, Kp wr z → Hid ((∀ n, (method (n + 1) 94 (.pointer (some ⟨h, 0, none⟩)) "Swap").run Try.prog z = .ok (118, v) z) ∧ Calls Try.prog 118 #[v, .int .i64 i, .int .i64 ((k : Int) + 1)] z fun e w' => e = .returned (.tuple #[]) ∧ Hw D h ((l.set i x).set (k + 1) y) w' ∧ Sif l0 x ((l.set i x).set (k + 1) y) i ∧ ((l.set i x).set (k + 1) y).length ≤ 500 ∧ D ≤ w'.heap.size ∧ Hmin l0 ∧ Ff TH D w w')) := fun z kz => by
          have hq := HQ.out.1.kp kz
          refine ⟨fun n => run_m1 mrow_swap n (hq.box.at (j := 0) rfl), (swap_any hq.row (by have := HI.out.2.2.1; omega) HQ.out.2.1 HI.out.2.1.at_).mono ?_⟩
          rintro e w' ⟨rfl, r1, r2, r3⟩
          exact ⟨rfl, ⟨v, hq.lh, r3 _ _ hq.box, r1⟩, HI.out.2.1.step HI.out.2.2.2.2.1 (by omega) HQ.out.2.2 HQ.out.2.1 hxy, by rw [List.length_set, List.length_set]; exact HI.out.2.2.1, Nat.le_trans (Nat.le_trans HI.out.2.2.2.1 kz.size) r2.size, HI.out.2.2.2.2.1, (HI.out.2.2.2.2.2.trans (Ff.kp kz)).trans r2⟩
        clear HI
        go_wp2_with fail
        refine Calls.mono HL.out ?_
        rintro e w' ⟨rfl, n, rfl⟩
        clear HL hle
        obtain ⟨hsw, hSW⟩ := (HX.out _ (kp_drewN wr n)).out
        have HS : Hid _ := hSW
        clear hSW HX HQ hxy
        go_wp2_with fail
        refine Calls.mono HS.out ?_
        rintro e w2 ⟨rfl, r⟩
        have HR : Hid _ := r
        clear HS r hsw
        go_wp2_with fail
        go_roundw
        case rel => exact ⟨i, _, rfl, by omega, HR.out⟩
        case measure => simp only [intOf]; omega
      · have d2 : decide (x < y) = false := decide_eq_false hxy
        have HX : Hid (∃ l' j', Sif l0 x l' j' ∧ Hmin l' ∧ Hw D h l' wr ∧ Ff TH D w wr) := ⟨l, k + 1, HI.out.2.1, HI.out.2.1.mid_end HI.out.2.2.2.2.1 (by omega) HQ.out.2.2 HQ.out.2.1 hxy, HI.out.1, HI.out.2.2.2.2.2⟩
        clear HI HQ hxy
        go_wp2_with fail
        refine Calls.mono HL.out ?_
        rintro e w' ⟨rfl, n, rfl⟩
        clear HL
        go_wp2_with fail
        go_end0
        obtain ⟨l', j', x1, x2, x3, x4⟩ := HX.out
        exact ⟨rfl, l', j', x1, x2, x3.kp (kp_drewN _ _), x4.trans (Ff.kp (kp_drewN _ _))⟩
end
end Go.Proofs.Ytehghbinjfkhgaa
/- heap.Push, heap.down, heap.Pop. -/
namespace Go.Proofs.Ytehghbinjfkhgaa
open Go.ChangeShapes Go.WideShapes Go.ChangeAt Go.RowKit Go.Maps Go.MapKept
set_option linter.unusedVariables false
set_option linter.unusedSimpArgs false
set_option maxRecDepth 100000
section
variable {D h : Nat} {v : Value} {l0 l : List Int} {w w1 : World} {x : Int}
theorem Hq.less (q : Hq D h v l w) (hl : l.length ≤ 500) {a b : Nat} {x y : Int} (ha : l[a]? = some x) (hb : l[b]? = some y) {z : World} (k : Kp w z) :
    (∀ n, (method (n + 1) 94 (.pointer (some ⟨h, 0, none⟩)) "Less").run Try.prog z = .ok (114, v) z) ∧ Calls Try.prog 114 #[v, .int .i64 a, .int .i64 b] z fun e w' => e = .returned (.bool (decide (x < y))) ∧ ∃ k, w' = z.drewN k :=
  ⟨fun n => run_m1 mrow_less n ((q.kp k).box.at (j := 0) rfl), less_any (q.kp k).row (by omega) ha hb⟩
theorem Hq.swap (q : Hq D h v l w) (hl : l.length ≤ 500) {a b : Nat} {x y : Int} (ha : l[a]? = some x) (hb : l[b]? = some y) {z : World} (k : Kp w z) :
    (∀ n, (method (n + 1) 94 (.pointer (some ⟨h, 0, none⟩)) "Swap").run Try.prog z = .ok (118, v) z) ∧ Calls Try.prog 118 #[v, .int .i64 a, .int .i64 b] z fun e w' => e = .returned (.tuple #[]) ∧ Hw D h ((l.set a y).set b x) w' ∧ Ff TH D w w' := by
  refine ⟨fun n => run_m1 mrow_swap n ((q.kp k).box.at (j := 0) rfl), (swap_any (q.kp k).row (by omega) ha hb).mono ?_⟩
  rintro e w' ⟨rfl, r1, r2, r3⟩
  exact ⟨rfl, ⟨v, q.lh, r3 _ _ (q.kp k).box, r1⟩, (Ff.kp k).trans r2⟩
set_option maxHeartbeats 8000000 in
theorem pushH_any (q : Hw D h l w) (hl : l.length ≤ 400) (hD : D ≤ w.heap.size) (hm : Hmin l) (x : Int) :
    Calls Try.prog 65 #[.iface 94 (.pointer (some ⟨h, 0, none⟩)), .iface 3 (.int .i64 x)] w fun e w' => e = .returned (.tuple #[]) ∧ ∃ l', Hw D h l' w' ∧ Hmin l' ∧ l'.length = l.length + 1 ∧ (∀ y, y ∈ l' ↔ y = x ∨ y ∈ l) ∧ Ff TH D w w' := by
  have hpu := fun n => run_m0 mrow_push n ⟨h, 0, none⟩ w
  have HP : Hid _ := push_any q (by omega) hD x
  have HD : Hid (D ≤ w.heap.size ∧ l.length ≤ 400 ∧ Hmin l) := ⟨hD, hl, hm⟩
  clear q hl hD hm
  go_enter Try.func65, Try.ntmps65
  go_wp2_with fail
  refine Calls.mono HP.out ?_
  rintro e w1 ⟨rfl, ⟨v1, q1⟩, f1⟩
  obtain ⟨a1, c1, rfl, _⟩ := q1.row.form
  obtain ⟨N, hN⟩ : ∃ N, l.length = N := ⟨_, rfl⟩
  have e1 : (l ++ [x]).length = N + 1 := by rw [List.length_append, hN]; rfl
  have HU : Hid (Calls Try.prog 73 #[.iface 94 (.pointer (some ⟨h, 0, none⟩)), .int .i64 N] w1 fun e w' => e = .returned (.tuple #[]) ∧ ∃ l', Hw D h l' w' ∧ Hmin l' ∧ l'.length = N + 1 ∧ (∀ y, y ∈ l' ↔ y = x ∨ y ∈ l) ∧ Ff TH D w w') := by
    rw [← hN]
    refine (up_heap ⟨_, q1⟩ (by rw [e1]; have := HD.out; omega) (Nat.le_trans HD.out.1 f1.size) (Sif.start l x) HD.out.2.2).mono ?_
    rintro e w' ⟨rfl, l', j', r1, r2, r3, r4⟩
    exact ⟨rfl, l', r3, r2, r1.len, r1.mem, f1.trans r4⟩
  have hNI : (N : Int) ≤ 400 := by have := HD.out.2.1; omega
  have hle := fun n => run_m1 mrow_len n (q1.box.at (j := 0) rfl)
  rw [e1] at hle
  have HLen : Hid _ := len_any a1 (N + 1) c1 w1
  clear HP hpu q1 f1
  go_wp2_with fail
  refine Calls.mono HLen.out ?_
  rintro e w2 ⟨rfl, rfl⟩
  clear HLen hle
  go_wp2_with fail
  refine Calls.mono HU.out ?_
  rintro e w2 ⟨rfl, r⟩
  have HR : Hid _ := r
  clear HU r
  go_wp2_with fail
  go_end0
  obtain ⟨l', r1, r2, r3, r4, r5⟩ := HR.out
  exact ⟨rfl, l', r1, r2, by rw [r3, hN], r4, r5⟩
set_option maxHeartbeats 8000000 in
theorem pop_any (q : Hw D h l w) (hl : l.length ≤ 500) {n : Nat} (hn : l.length = n + 1) {z : Int} (hz : l[n]? = some z) :
    Calls Try.prog 115 #[.pointer (some ⟨h, 0, none⟩)] w fun e w' => e = .returned (.iface 3 (.int .i64 z)) ∧ Ff TH D w w' := by
  obtain ⟨v, q⟩ := q
  have c0 := q.box.at (j := 0) rfl
  have f0 := q.box.fz 0
  obtain ⟨g, c, hv, hDg, hc1, hc2, hcl, hfz⟩ := ir_cells q.row (by rintro rfl; cases hz)
  subst hv
  have c1 := hcl _ _ hz
  have HF : Hid (∀ u, Ff TH D w (w.setCell ⟨h, 0, none⟩ u)) := fun u => Ff.on (fr_set h 0 u w) q.lh q.box (.inl rfl)
  have hc : n ≤ c := by omega
  have hcI : (n : Int) ≤ (c : Int) := by omega
  unfold maxLen at hc2
  have HLen : Hid _ := len_any (some ⟨g, 0, none⟩) (n + 1) c w
  rw [hn] at c0
  clear q hcl hfz hz hn hl hc1
  go_enter Try.func115, Try.ntmps115
  go_wp2_with fail
  refine Calls.mono HLen.out ?_
  rintro e w2 ⟨rfl, rfl⟩
  clear HLen
  go_wp2_with fail
  go_ret
  exact ⟨rfl, HF.out _⟩
end
end Go.Proofs.Ytehghbinjfkhgaa
/- heap.down. -/
namespace Go.Proofs.Ytehghbinjfkhgaa
open Go.ChangeShapes Go.WideShapes Go.ChangeAt Go.RowKit Go.Maps Go.MapKept
set_option linter.unusedVariables false
set_option linter.unusedSimpArgs false
set_option maxRecDepth 100000
section
variable {D h : Nat} {v : Value} {l0 l : List Int} {w w1 : World} {x : Int}
/-- While one goes down. -/
def Dwn (D h n i len : Nat) (lst : Option Int) (w wr : World) : Prop := ∃ l v, Hq D h v l wr ∧ l.length = len ∧ l[n]? = lst ∧ Ff TH D w wr
theorem Dwn.swap {n i j len : Nat} {lst : Option Int} {wr wz : World} (hq : Hq D h v l wr) (hlen : l.length = len) (hl : len ≤ 500) (hlst : l[n]? = lst) (f : Ff TH D w wr) {x y : Int} (hi : l[i]? = some x) (hj : l[j]? = some y) (hin : i < n) (hjn : j < n) (k : Kp wr wz) :
    (∀ n, (method (n + 1) 94 (.pointer (some ⟨h, 0, none⟩)) "Swap").run Try.prog wz = .ok (118, v) wz) ∧ Calls Try.prog 118 #[v, .int .i64 i, .int .i64 j] wz fun e w' => e = .returned (.tuple #[]) ∧ Dwn D h n j len lst w w' := by
  obtain ⟨h1, h2⟩ := hq.swap (by omega) hi hj k
  refine ⟨h1, h2.mono ?_⟩
  rintro e w' ⟨rfl, ⟨v', q'⟩, f'⟩
  exact ⟨rfl, _, v', q', by rw [List.length_set, List.length_set]; exact hlen, by rw [List.getElem?_set_ne (by omega), List.getElem?_set_ne (by omega)]; exact hlst, f.trans f'⟩
set_option maxHeartbeats 32000000 in
theorem down_heap (q : Hw D h l w) (hl : l.length ≤ 500) {n : Nat} (hn : n < l.length) :
    Calls Try.prog 67 #[.iface 94 (.pointer (some ⟨h, 0, none⟩)), .int .i64 0, .int .i64 n] w fun e w' => ∃ b l', e = .returned (.bool b) ∧ Hw D h l' w' ∧ l'.length = l.length ∧ l'[n]? = l[n]? ∧ Ff TH D w w' := by
  have H0 : Hid (Dwn D h n 0 l.length l[n]? w w) := by obtain ⟨v, q⟩ := q; exact ⟨l, v, q, rfl, rfl, Ff.refl _ _ _⟩
  have HB : Hid (l.length ≤ 500 ∧ n < l.length) := ⟨hl, hn⟩
  have hnI : (n : Int) < 500 := by omega
  clear q hl hn
  go_enter Try.func67, Try.ntmps67
  go_wp2_with fail
  go_loopw [7] (fun v7 wr => ∃ (i : Nat), v7 = .int .i64 i ∧ i ≤ n ∧ Hid (Dwn D h n i l.length l[n]? w wr)) (fun v7 _ => n - (intOf v7).toNat)
  case atStart => exact ⟨0, rfl, Nat.zero_le _, H0.out⟩
  case round =>
    obtain ⟨i, rfl, hi, HI⟩ := hrel
    clear H0
    obtain ⟨l1, v, hq, hlen, hlst, hff⟩ := HI.out
    have HQ : Hid (Hq D h v l1 wr ∧ l1.length = l.length ∧ l1[n]? = l[n]? ∧ Ff TH D w wr) := ⟨hq, hlen, hlst, hff⟩
    have HEND : Hid (∀ k, Hw D h l1 (wr.drewN k) ∧ l1.length = l.length ∧ l1[n]? = l[n]? ∧ Ff TH D w (wr.drewN k)) := fun k => ⟨⟨v, hq.kp (kp_drewN _ _)⟩, hlen, hlst, hff.trans (Ff.kp (kp_drewN _ _))⟩
    obtain ⟨c, hc⟩ : ∃ c, c = 2 * i + 1 := ⟨_, rfl⟩
    have u1 : 2 * (i : Int) + 1 = (c : Int) := by omega
    have HC : Hid (c = 2 * i + 1) := hc
    clear hq hlen hlst hff HI hc
    by_cases p : n ≤ c
    · have d1 : decide ((c : Int) ≥ (n : Int)) = true := decide_eq_true (by omega)
      have d2 : decide ((n : Int) ≤ (c : Int)) = true := decide_eq_true (by omega)
      have d3 : decide (n ≤ c) = true := decide_eq_true p
      clear HQ
      go_wp2_with fail
      go_ret
      exact ⟨_, l1, rfl, HEND.out 0⟩
    · have d1 : decide ((c : Int) ≥ (n : Int)) = false := decide_eq_false (by omega)
      have d2 : decide ((n : Int) ≤ (c : Int)) = false := decide_eq_false (by omega)
      have d3 : decide (n ≤ c) = false := decide_eq_false p
      have d4 : decide ((c : Int) < 0) = false := decide_eq_false (by omega)
      obtain ⟨z, hz⟩ : ∃ z, c + 1 = z := ⟨_, rfl⟩
      have u2 : (c : Int) + 1 = (z : Int) := by omega
      have HZ : Hid (c + 1 = z) := hz
      have HLT : Hid (n < l1.length ∧ l1.length ≤ 500) := by rw [HQ.out.2.1]; exact ⟨HB.out.2, HB.out.1⟩
      obtain ⟨yi, hyi⟩ : ∃ y, l1[i]? = some y := ⟨_, List.getElem?_eq_getElem (by have := HC.out; have := HLT.out; omega)⟩
      obtain ⟨yc, hyc⟩ : ∃ y, l1[c]? = some y := ⟨_, List.getElem?_eq_getElem (by have := HLT.out; omega)⟩
      have HY : Hid (l1[i]? = some yi ∧ l1[c]? = some yc) := ⟨hyi, hyc⟩
      have HR : Hid (∀ (j : Nat) (x y : Int) (m : Nat), l1[i]? = some x → l1[j]? = some y → i < n → j < n → Hid ((∀ n, (method (n + 1) 94 (.pointer (some ⟨h, 0, none⟩)) "Swap").run Try.prog (wr.drewN m) = .ok (118, v) (wr.drewN m)) ∧ Calls Try.prog 118 #[v, .int .i64 i, .int .i64 j] (wr.drewN m) fun e w' => e = .returned (.tuple #[]) ∧ Dwn D h n j l.length l[n]? w w')) := fun j x y m h1 h2 h3 h4 => Dwn.swap HQ.out.1 HQ.out.2.1 HB.out.1 HQ.out.2.2.1 HQ.out.2.2.2 h1 h2 h3 h4 (kp_drewN _ _)
      have HLS : Hid (∀ (a b : Nat) (x y : Int) (m : Nat), l1[a]? = some x → l1[b]? = some y → Hid ((∀ n, (method (n + 1) 94 (.pointer (some ⟨h, 0, none⟩)) "Less").run Try.prog (wr.drewN m) = .ok (114, v) (wr.drewN m)) ∧ Calls Try.prog 114 #[v, .int .i64 a, .int .i64 b] (wr.drewN m) fun e w' => e = .returned (.bool (decide (x < y))) ∧ ∃ k, w' = wr.drewN k)) := fun a b x y m h1 h2 => by
        obtain ⟨g1, g2⟩ := HQ.out.1.less HLT.out.2 h1 h2 (kp_drewN wr m)
        refine ⟨g1, g2.mono ?_⟩
        rintro e w' ⟨rfl, k, rfl⟩
        exact ⟨rfl, m + k, by rw [drew2]⟩
      clear hz hyi hyc HQ
      by_cases p2 : z < n
      · have b1 : decide ((z : Int) < (n : Int)) = true := decide_eq_true (by omega)
        have b2 : decide (z < n) = true := decide_eq_true p2
        obtain ⟨yz, hyz⟩ : ∃ y, l1[z]? = some y := ⟨_, List.getElem?_eq_getElem (by have := HLT.out; omega)⟩
        have HYZ : Hid (l1[z]? = some yz) := hyz
        obtain ⟨hl1, HL1⟩ := (HLS.out z c yz yc 0 hyz HY.out.2).out
        change ∀ n, (method (n + 1) 94 (.pointer (some ⟨h, 0, none⟩)) "Less").run Try.prog wr = .ok (114, v) wr at hl1
        have HL1' : Hid (Calls Try.prog 114 #[v, .int .i64 z, .int .i64 c] wr fun e w' => e = .returned (.bool (decide (yz < yc))) ∧ ∃ k, w' = wr.drewN k) := HL1
        clear hyz HL1
        by_cases p3 : yz < yc
        · have b3 : decide (yz < yc) = true := decide_eq_true p3
          clear p3
          go_wp2_with fail
          refine Calls.mono HL1'.out ?_
          rintro e w' ⟨rfl, m, rfl⟩
          clear HL1' hl1
          obtain ⟨hl3, HL3⟩ := (HLS.out z i yz yi m (HYZ.out) HY.out.1).out
          have HL3' : Hid _ := HL3
          have HLTi : Hid (z < n ∧ i < n ∧ i < z) := ⟨p2, by have := HC.out; omega, by have := HC.out; have := HZ.out; omega⟩
          clear HL3
          by_cases p5 : yz < yi
          · have b5 : decide (yz < yi) = true := decide_eq_true p5
            clear p5 HEND
            go_wp2_with fail
            refine Calls.mono HL3'.out ?_
            rintro e w' ⟨rfl, m5, rfl⟩
            clear HL3' hl3 HLS
            obtain ⟨hs5, HS5⟩ := (HR.out z yi yz m5 HY.out.1 (HYZ.out) HLTi.out.2.1 HLTi.out.1).out
            have HS : Hid _ := HS5
            clear HS5
            go_wp2_with fail
            refine Calls.mono HS.out ?_
            rintro e w6 ⟨rfl, r⟩
            have HX : Hid _ := r
            clear HS hs5 r HR
            go_wp2_with fail
            go_roundw
            case rel => exact ⟨z, rfl, by have := HLTi.out; omega, HX.out⟩
            case measure => have := HLTi.out; simp only [intOf]; omega
          · have b5 : decide (yz < yi) = false := decide_eq_false p5
            clear p5 HR
            go_wp2_with fail
            refine Calls.mono HL3'.out ?_
            rintro e w' ⟨rfl, m5, rfl⟩
            clear HL3' hl3 HLS
            go_wp2_with fail
            go_ret
            exact ⟨_, l1, rfl, HEND.out _⟩
        · have b3 : decide (yz < yc) = false := decide_eq_false p3
          clear p3
          go_wp2_with fail
          refine Calls.mono HL1'.out ?_
          rintro e w' ⟨rfl, m, rfl⟩
          clear HL1' hl1
          obtain ⟨hl3, HL3⟩ := (HLS.out c i yc yi m (HY.out.2) HY.out.1).out
          have HL3' : Hid _ := HL3
          have HLTi : Hid (c < n ∧ i < n ∧ i < c) := ⟨(by omega), by have := HC.out; omega, by have := HC.out; have := HZ.out; omega⟩
          clear HL3
          by_cases p5 : yc < yi
          · have b5 : decide (yc < yi) = true := decide_eq_true p5
            clear p5 HEND
            go_wp2_with fail
            refine Calls.mono HL3'.out ?_
            rintro e w' ⟨rfl, m5, rfl⟩
            clear HL3' hl3 HLS
            obtain ⟨hs5, HS5⟩ := (HR.out c yi yc m5 HY.out.1 (HY.out.2) HLTi.out.2.1 HLTi.out.1).out
            have HS : Hid _ := HS5
            clear HS5
            go_wp2_with fail
            refine Calls.mono HS.out ?_
            rintro e w6 ⟨rfl, r⟩
            have HX : Hid _ := r
            clear HS hs5 r HR
            go_wp2_with fail
            go_roundw
            case rel => exact ⟨c, rfl, by have := HLTi.out; omega, HX.out⟩
            case measure => have := HLTi.out; simp only [intOf]; omega
          · have b5 : decide (yc < yi) = false := decide_eq_false p5
            clear p5 HR
            go_wp2_with fail
            refine Calls.mono HL3'.out ?_
            rintro e w' ⟨rfl, m5, rfl⟩
            clear HL3' hl3 HLS
            go_wp2_with fail
            go_ret
            exact ⟨_, l1, rfl, HEND.out _⟩
      · have b1 : decide ((z : Int) < (n : Int)) = false := decide_eq_false (by omega)
        have b2 : decide (z < n) = false := decide_eq_false p2
        obtain ⟨hl3, HL3⟩ := (HLS.out c i yc yi 0 (HY.out.2) HY.out.1).out
        change ∀ n, (method (n + 1) 94 (.pointer (some ⟨h, 0, none⟩)) "Less").run Try.prog wr = .ok (114, v) wr at hl3
        have HL3' : Hid (Calls Try.prog 114 #[v, .int .i64 c, .int .i64 i] wr fun e w' => e = .returned (.bool (decide (yc < yi))) ∧ ∃ k, w' = wr.drewN k) := HL3
        have HLTi : Hid (c < n ∧ i < n ∧ i < c) := ⟨(by omega), by have := HC.out; omega, by have := HC.out; have := HZ.out; omega⟩
        clear HL3
        by_cases p5 : yc < yi
        · have b5 : decide (yc < yi) = true := decide_eq_true p5
          clear p5 HEND
          go_wp2_with fail
          refine Calls.mono HL3'.out ?_
          rintro e w' ⟨rfl, m5, rfl⟩
          clear HL3' hl3 HLS
          obtain ⟨hs5, HS5⟩ := (HR.out c yi yc m5 HY.out.1 (HY.out.2) HLTi.out.2.1 HLTi.out.1).out
          have HS : Hid _ := HS5
          clear HS5
          go_wp2_with fail
          refine Calls.mono HS.out ?_
          rintro e w6 ⟨rfl, r⟩
          have HX : Hid _ := r
          clear HS hs5 r HR
          go_wp2_with fail
          go_roundw
          case rel => exact ⟨c, rfl, by have := HLTi.out; omega, HX.out⟩
          case measure => have := HLTi.out; simp only [intOf]; omega
        · have b5 : decide (yc < yi) = false := decide_eq_false p5
          clear p5 HR
          go_wp2_with fail
          refine Calls.mono HL3'.out ?_
          rintro e w' ⟨rfl, m5, rfl⟩
          clear HL3' hl3 HLS
          go_wp2_with fail
          go_ret
          exact ⟨_, l1, rfl, HEND.out _⟩

end
end Go.Proofs.Ytehghbinjfkhgaa
/- heap.Pop. -/
namespace Go.Proofs.Ytehghbinjfkhgaa
open Go.ChangeShapes Go.WideShapes Go.ChangeAt Go.RowKit Go.Maps Go.MapKept
set_option linter.unusedVariables false
set_option linter.unusedSimpArgs false
set_option maxRecDepth 100000
section
variable {D h : Nat} {v : Value} {l0 l : List Int} {w w1 : World} {x : Int}
set_option maxHeartbeats 8000000 in
theorem popH_any (q : Hw D h l w) (hl : l.length ≤ 500) {n : Nat} (hn : l.length = n + 1) {m : Int} (hm : l[0]? = some m) :
    Calls Try.prog 56 #[.iface 94 (.pointer (some ⟨h, 0, none⟩))] w fun e w' => e = .returned (.iface 3 (.int .i64 m)) ∧ Ff TH D w w' := by
  obtain ⟨v, q⟩ := q
  obtain ⟨z, hz⟩ : ∃ z, l[n]? = some z := ⟨_, List.getElem?_eq_getElem (by omega)⟩
  obtain ⟨hs, HS⟩ := q.swap hl hm hz (Below.refl _ _)
  have hle := fun n => run_m1 mrow_len n (q.box.at (j := 0) rfl)
  obtain ⟨a1, c1, rfl, _⟩ := q.row.form
  have HLen : Hid _ := len_any a1 (n + 1) c1 w
  have hg : ((l.set 0 z).set n m)[n]? = some m := by rw [List.getElem?_set_self (by rw [List.length_set]; omega)]
  have H1 : Hid (Calls Try.prog 118 #[.slice a1 (n + 1) c1, .int .i64 0, .int .i64 n] w fun e w' => e = .returned (.tuple #[]) ∧ Hid (Ff TH D w w' ∧ Calls Try.prog 67 #[.iface 94 (.pointer (some ⟨h, 0, none⟩)), .int .i64 0, .int .i64 n] w' fun e w2 => ∃ b, e = .returned (.bool b) ∧ Hid (Ff TH D w w2 ∧ Calls Try.prog 115 #[.pointer (some ⟨h, 0, none⟩)] w2 fun e w3 => e = .returned (.iface 3 (.int .i64 m)) ∧ Ff TH D w w3))) := by
    rw [hn] at HS
    refine HS.mono ?_
    rintro e w' ⟨rfl, r1, r2⟩
    refine ⟨rfl, r2, (down_heap r1 (by rw [List.length_set, List.length_set]; exact hl) (n := n) (by rw [List.length_set, List.length_set]; omega)).mono ?_⟩
    rintro e w2 ⟨b, l', rfl, p1, p2, p3, p4⟩
    refine ⟨b, rfl, r2.trans p4, (pop_any p1 (by rw [p2, List.length_set, List.length_set]; exact hl) (n := n) (by rw [p2, List.length_set, List.length_set]; exact hn) (z := m) (by rw [p3]; exact hg)).mono ?_⟩
    rintro e w3 ⟨rfl, s1⟩
    exact ⟨rfl, (r2.trans p4).trans s1⟩
  rw [hn] at hs hle
  have hnI : (n : Int) ≤ 500 := by omega
  have hpo := fun n (w2 : World) => run_m0 mrow_pop n ⟨h, 0, none⟩ w2
  clear HS q hz hg
  go_enter Try.func56, Try.ntmps56
  go_wp2_with fail
  refine Calls.mono HLen.out ?_
  rintro e w2 ⟨rfl, rfl⟩
  clear HLen hle
  go_wp2_with fail
  refine Calls.mono H1.out ?_
  rintro e w2 ⟨rfl, H2⟩
  have H3 : Hid _ := H2.out.2
  clear H1 H2 hs
  go_wp2_with fail
  refine Calls.mono H3.out ?_
  rintro e w3 ⟨b, rfl, H4⟩
  have H5 : Hid _ := H4.out.2
  clear H3 H4
  go_wp2_with fail
  refine Calls.mono H5.out ?_
  rintro e w4 ⟨rfl, H6⟩
  have H7 : Hid _ := H6
  clear H5 H6
  go_wp2_with fail
  go_ret
  exact ⟨rfl, H7.out⟩
end
end Go.Proofs.Ytehghbinjfkhgaa
/- What goes when there is no more room: pure. -/
namespace Go.Proofs.Ytehghbinjfkhgaa
set_option linter.unusedVariables false
set_option linter.unusedSimpArgs false
/-- All but one. -/
def dropL (L : List St) (x : Int) : List St := L.filter fun s => !decide (s.seq = x)
/-- Those that were made from one. -/
def kidsL (L : List St) (x : Int) : List St := L.filter fun s => decide (s.fr = x)
/-- The greatest number of these. -/
def newest (L : List St) (x : Int) : Int := ((kidsL L x).getLast?.map St.seq).getD (-1)
/-- A state goes; the way on of the one from which it came may be another. -/
def cutT (L : List St) (x fr : Int) : List St :=
  match look (dropL L x) fr with
  | some p => if p.on = x then setOn (dropL L x) fr (newest (dropL L x) fr) else dropL L x
  | none => dropL L x
/-- From this one no state was made. -/
def unroot (x : Int) (s : St) : St := if s.fr = x then { s with fr := -1, by_ := [] } else s
/-- The first one goes. -/
def rootT : List St → List St
  | [] => []
  | r :: L => L.map (unroot r.seq)
def bareP (m : Tr) (s : St) : Bool := decide (s.on = -1) && !decide (s.seq = m.now)
/-- One goes. -/
def evT (m : Tr) : Tr :=
  match m.L.find? (bareP m) with
  | some s => { m with L := cutT m.L s.seq s.fr }
  | none => { m with L := rootT m.L }
/-- Add, whatever room there is. -/
def addE (m : Tr) (ds : List Dl) : Tr := if m.most < ((addT m ds).L.length : Int) then evT (addT m ds) else addT m ds
section
variable {L : List St} {x y a b next : Int} {s : St} {l : List Int}
theorem look_drop (L : List St) (x y : Int) : look (dropL L x) y = if y = x then none else look L y := by
  induction L with
  | nil => unfold dropL look; split <;> rfl
  | cons s L ih =>
    unfold dropL at ih ⊢
    rw [List.filter_cons]
    by_cases q : s.seq = x
    · rw [if_neg (by simp [q]), ih, look_cons]
      by_cases p : y = x
      · rw [if_pos p, if_pos p]
      · rw [if_neg p, if_neg p, if_neg (by rw [q]; exact fun e => p e.symm)]
    · rw [if_pos (by simp [q]), look_cons, look_cons, ih]
      by_cases p : s.seq = y
      · rw [if_pos p, if_pos p, if_neg (by rw [← p]; exact q)]
      · rw [if_neg p, if_neg p]
theorem look_map {g : St → St} (hg : ∀ s, (g s).seq = s.seq) (L : List St) (y : Int) : look (L.map g) y = (look L y).map g := by
  induction L with
  | nil => rfl
  | cons s L ih =>
    rw [List.map_cons, look_cons, look_cons, hg, ih]
    split <;> rfl
theorem mem_look (hs : (L.map St.seq).Pairwise (· < ·)) (h : s ∈ L) : look L s.seq = some s := by
  induction L with
  | nil => cases h
  | cons a L ih =>
    rw [List.map_cons, List.pairwise_cons] at hs
    rw [look_cons]
    rcases List.mem_cons.1 h with rfl | h
    · rw [if_pos rfl]
    · have := hs.1 s.seq (List.mem_map.2 ⟨s, h, rfl⟩)
      rw [if_neg (by omega), ih hs.2 h]
theorem drop_sub (L : List St) (x : Int) : (dropL L x).Sublist L := List.filter_sublist
theorem drop_sorted (hs : (L.map St.seq).Pairwise (· < ·)) (x : Int) : ((dropL L x).map St.seq).Pairwise (· < ·) := List.Pairwise.sublist ((drop_sub L x).map _) hs
theorem last_max : ∀ {l : List St}, (l.map St.seq).Pairwise (· < ·) → ∀ {z}, l.getLast? = some z → ∀ s ∈ l, s.seq ≤ z.seq
  | [], _, _, h, _, _ => by simp at h
  | [a], _, z, h, s, hm => by
    simp at h hm; subst h; subst hm; exact Int.le_refl _
  | a :: b :: l, hs, z, h, s, hm => by
    rw [List.map_cons, List.pairwise_cons] at hs
    rw [List.getLast?_cons_cons] at h
    have hz : z ∈ b :: l := List.mem_of_getLast? h
    rcases List.mem_cons.1 hm with rfl | hm
    · have := hs.1 z.seq (List.mem_map.2 ⟨z, hz, rfl⟩); omega
    · exact last_max hs.2 h s hm
theorem newest_cases (hs : (L.map St.seq).Pairwise (· < ·)) (x : Int) :
    (newest L x = -1 ∧ ∀ y s, look L y = some s → s.fr ≠ x) ∨ ∃ s, look L (newest L x) = some s ∧ s.fr = x ∧ ∀ y s', look L y = some s' → s'.fr = x → y ≤ newest L x := by
  have hk : (kidsL L x).Sublist L := List.filter_sublist
  unfold newest
  cases e : (kidsL L x).getLast? with
  | none =>
    refine .inl ⟨rfl, fun y s h q => ?_⟩
    have : s ∈ kidsL L x := List.mem_filter.2 ⟨look_mem h, by simpa using q⟩
    rw [List.getLast?_eq_none_iff] at e
    rw [e] at this; cases this
  | some z =>
    have hz : z ∈ kidsL L x := List.mem_of_getLast? e
    have hz2 := List.mem_filter.1 hz
    refine .inr ⟨z, mem_look hs hz2.1, by simpa using hz2.2, fun y s' h q => ?_⟩
    have hm : s' ∈ kidsL L x := List.mem_filter.2 ⟨look_mem h, by simpa using q⟩
    have := last_max (List.Pairwise.sublist (hk.map _) hs) e s' hm
    rw [look_seq h] at this; exact this
theorem look_cut {fr : Int} (hf : fr ≠ x) (y : Int) : look (cutT L x fr) y = if y = x then none else (look L y).map fun a => if y = fr ∧ a.on = x then { a with on := newest (dropL L x) fr } else a := by
  unfold cutT
  have e := look_drop L x fr
  rw [if_neg hf] at e
  rw [e]
  cases h : look L fr with
  | none =>
    show look (dropL L x) y = _
    rw [look_drop]
    by_cases q : y = x
    · rw [if_pos q, if_pos q]
    · rw [if_neg q, if_neg q]
      cases h2 : look L y with
      | none => rfl
      | some a =>
        rw [Option.map_some, if_neg]
        rintro ⟨rfl, _⟩
        rw [h] at h2; cases h2
  | some p =>
    show look (if p.on = x then setOn (dropL L x) fr (newest (dropL L x) fr) else dropL L x) y = _
    by_cases hp : p.on = x
    · rw [if_pos hp, look_on, look_drop]
      by_cases q : y = x
      · rw [if_pos q, if_pos q]; rfl
      · rw [if_neg q, if_neg q]
        cases h2 : look L y with
        | none => rfl
        | some a =>
          rw [Option.map_some, Option.map_some]
          by_cases q2 : y = fr
          · subst q2; rw [h] at h2; cases h2
            rw [if_pos rfl, if_pos ⟨rfl, hp⟩]
          · rw [if_neg q2, if_neg (fun z => q2 z.1)]
    · rw [if_neg hp, look_drop]
      by_cases q : y = x
      · rw [if_pos q, if_pos q]
      · rw [if_neg q, if_neg q]
        cases h2 : look L y with
        | none => rfl
        | some a =>
          rw [Option.map_some, if_neg]
          rintro ⟨rfl, q3⟩
          rw [h] at h2; cases h2
          exact hp q3
theorem cut_seq (L : List St) (x fr : Int) : (cutT L x fr).map St.seq = (dropL L x).map St.seq := by
  unfold cutT
  split
  · split
    · exact setOn_seq _ _ _
    · rfl
  · rfl
theorem Up.last (h : Up L a l x) (hl : l ≠ []) : ∃ z s, look L z = some s ∧ s.fr = x := by
  induction h with
  | nil => exact absurd rfl hl
  | cons h1 h2 h3 ih =>
    cases h3 with
    | nil => exact ⟨_, _, h1, rfl⟩
    | cons k1 k2 k3 => exact ih (by simp)
/-- What has no way on, and is not the one that is, came from one. -/
theorem bare_fr (F : Fam L next) (K : OnK L) {now : Int} (hn : look L now ≠ none) (hx : look L x = some s) (ho : s.on = -1) (hne : x ≠ now) : s.fr ≠ -1 := by
  intro e
  obtain ⟨r, sr, h1, h2, h3⟩ := F.rt
  obtain ⟨l, hl⟩ := h3 x (by rw [hx]; simp)
  have exr : x = r := by
    cases hl with
    | nil => rfl
    | cons k1 k2 _ => rw [hx] at k1; cases k1; exact absurd e k2
  subst exr
  obtain ⟨l, hl⟩ := h3 now hn
  obtain ⟨z, s', q1, q2⟩ := hl.last (by rintro rfl; cases hl; exact hne rfl)
  exact K x s hx ho z s' q1 q2
end
section
variable {m : Tr} {s : St} {x next : Int}
theorem inw_cut (I : Inw m) (hx : look m.L x = some s) (ho : s.on = -1) (hne : x ≠ m.now) : Inw { m with L := cutT m.L x s.fr } := by
  have F := I.inv.fam
  have hk := I.onk x s hx ho
  have hf := bare_fr F I.onk I.inv.nw hx ho hne
  have hxf := F.fr _ _ hx
  have hfx : s.fr ≠ x := by omega
  have hlk := fun y => look_cut (L := m.L) hfx y
  have hM := drop_sorted I.inv.sq x
  have hnw := newest_cases hM s.fr
  obtain ⟨N, hN⟩ : ∃ N, newest (dropL m.L x) s.fr = N := ⟨_, rfl⟩
  rw [hN] at hnw
  have old : ∀ y s', look (cutT m.L x s.fr) y = some s' → y ≠ x ∧ ∃ s0, look m.L y = some s0 ∧ s'.fr = s0.fr ∧ s'.by_ = s0.by_ ∧ ((s'.on = s0.on ∧ ¬ (y = s.fr ∧ s0.on = x)) ∨ (y = s.fr ∧ s0.on = x ∧ s'.on = N)) := fun y s' h => by
    rw [hlk y] at h
    by_cases q : y = x
    · rw [if_pos q] at h; cases h
    · rw [if_neg q] at h
      obtain ⟨s0, h0, h1⟩ := Option.map_eq_some_iff.1 h
      refine ⟨q, s0, h0, ?_⟩
      by_cases p : y = s.fr ∧ s0.on = x
      · rw [if_pos p] at h1; subst h1; exact ⟨rfl, rfl, .inr ⟨p.1, p.2, hN⟩⟩
      · rw [if_neg p] at h1; subst h1; exact ⟨rfl, rfl, .inl ⟨rfl, p⟩⟩
  have new : ∀ y s0, look m.L y = some s0 → y ≠ x → ∃ s', look (cutT m.L x s.fr) y = some s' ∧ s'.fr = s0.fr ∧ s'.by_ = s0.by_ ∧ (s0.on ≠ x → s'.on = s0.on) := fun y s0 h q => by
    rw [hlk y, if_neg q, h]
    by_cases p : y = s.fr ∧ s0.on = x
    · exact ⟨_, rfl, by simp [p], by simp [p], fun z => absurd p.2 z⟩
    · exact ⟨_, rfl, by simp [p], by simp [p], fun _ => by simp [p]⟩
  have up : ∀ {c l y}, Up m.L c l y → c ≠ x → Up (cutT m.L x s.fr) c l y := fun h => by
    induction h with
    | nil c => intro _; exact .nil c
    | cons h1 h2 h3 ih =>
      intro q
      obtain ⟨s', k1, k2, _⟩ := new _ _ h1 q
      exact .cons k1 (by rw [k2]; exact h2) (by rw [k2]; exact ih (hk _ _ h1))
  refine ⟨⟨⟨fun y s' h => ?_, ?_, fun y s' h hon => ?_, fun y s' h => ?_⟩, ?_, ?_⟩, ?_, fun y s' h hon z s2 hz => ?_⟩
  · obtain ⟨_, s0, h0, h1, _⟩ := old y s' h
    rw [h1]; exact F.fr _ _ h0
  · obtain ⟨r, sr, h1, h2, h3⟩ := F.rt
    have hr : r ≠ x := by rintro rfl; rw [hx] at h1; cases h1; exact hf h2
    obtain ⟨s', k1, k2, _⟩ := new r sr h1 hr
    refine ⟨r, s', k1, k2.trans h2, fun y hy => ?_⟩
    obtain ⟨s2, hs2⟩ := Option.ne_none_iff_exists'.1 hy
    obtain ⟨hyx, s0, h0, _⟩ := old y s2 hs2
    obtain ⟨l, hl⟩ := h3 y (by rw [h0]; simp)
    exact ⟨l, up hl hyx⟩
  · obtain ⟨hyx, s0, h0, _, _, ⟨e, hno⟩ | ⟨e1, e2, e3⟩⟩ := old y s' h
    · rw [e] at hon ⊢
      obtain ⟨t, ht, hft⟩ := F.on _ _ h0 hon
      have : s0.on ≠ x := by
        intro q
        rw [q, hx] at ht; cases ht
        exact hno ⟨hft.symm, q⟩
      obtain ⟨t', k1, k2, _⟩ := new _ _ ht this
      exact ⟨t', k1, k2.trans hft⟩
    · rw [e3] at hon ⊢
      rcases hnw with ⟨q, _⟩ | ⟨t, ht, hft, _⟩
      · exact absurd q hon
      · rw [look_drop] at ht
        split at ht
        · cases ht
        · rename_i hNx
          obtain ⟨t', k1, k2, _⟩ := new _ _ ht hNx
          exact ⟨t', k1, k2.trans (hft.trans e1.symm)⟩
  · obtain ⟨_, s0, h0, _, h1, _⟩ := old y s' h
    rw [h1]; exact F.few _ _ h0
  · show ((cutT m.L x s.fr).map St.seq).Pairwise _
    rw [cut_seq]; exact hM
  · show look (cutT m.L x s.fr) m.now ≠ none
    obtain ⟨s0, h0⟩ := Option.ne_none_iff_exists'.1 I.inv.nw
    obtain ⟨s', k1, _⟩ := new _ _ h0 (fun e => hne e.symm)
    rw [k1]; simp
  · have key : ∀ c, Pth m.L c → c ≠ x → Pth (cutT m.L x s.fr) c := fun c h => by
      induction h with
      | root h1 h2 =>
        intro q
        obtain ⟨s', k1, k2, _⟩ := new _ _ h1 q
        exact .root k1 (k2.trans h2)
      | step h1 h2 h3 h4 h5 ih =>
        intro q
        obtain ⟨s', k1, k2, _⟩ := new _ _ h1 q
        have hn := hk _ _ h1
        obtain ⟨s2, j1, _, _, j2⟩ := new _ _ h3 hn
        have hon := j2 (by rw [h4]; exact q)
        exact .step k1 (by rw [k2]; exact h2) (by rw [k2]; exact j1) (hon.trans h4) (by rw [k2]; exact ih hn)
    exact key _ I.pth (fun e => hne e.symm)
  · obtain ⟨hyx, s0, h0, _, _, ⟨e, hno⟩ | ⟨e1, e2, e3⟩⟩ := old y s' h
    · obtain ⟨_, s3, h3, e4, _⟩ := old z s2 hz
      rw [e4]; exact I.onk y s0 h0 (by rw [← e]; exact hon) z s3 h3
    · rcases hnw with ⟨q, hno⟩ | ⟨t, ht, hft, _⟩
      · obtain ⟨hzx, s3, h3, e4, _⟩ := old z s2 hz
        rw [e4, e1]
        exact hno z s3 (by rw [look_drop, if_neg hzx]; exact h3)
      · rw [look_drop] at ht
        split at ht
        · cases ht
        · have := F.fr _ _ ht
          omega
end
end Go.Proofs.Ytehghbinjfkhgaa
