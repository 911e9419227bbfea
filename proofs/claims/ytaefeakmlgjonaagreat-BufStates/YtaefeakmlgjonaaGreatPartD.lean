/- Texts that the proof of the law stands on: ZC, ZD, XA, ZE, ZF, ZQ, ZP, ZR. -/
import Derived.Test.YtaefeakmlgjonaaGreatPartC
import Derived.Lib.Slices
import Derived.Lib.MinMax
/- The document's Redo. -/
namespace Go.Proofs.YtaefeakmlgjonaaGreat
open Go.ChangeShapes Go.WideShapes Go.ChangeAt Go.RowKit Go.Maps Go.MapKept
set_option linter.unusedVariables false
set_option linter.unusedSimpArgs false
set_option maxRecDepth 100000
section
variable {B C r : Nat} {v : Value} {vs : List Value} {m : Tr} {w w1 : World}
set_option maxHeartbeats 8000000 in
theorem rredo_end (h : Rw B C r m w) (I : Inv m) (hl : m.L.length ≤ 250) {s : St} (hs : look m.L m.now = some s) (hf : s.on = -1) :
    Calls Tryz.prog 104 #[.pointer (some ⟨r, 0, none⟩)] w fun e w' => e = .returned (.tuple #[.slice none 0 0, .int .i64 121]) ∧ Kp w w' := by
  obtain ⟨k, hk⟩ := idx_of (L := m.L) (x := m.now) (by rw [hs]; simp)
  have hks := at_of I.sq hk hs
  have HF : Hid (∀ z, Kp w z → Calls Tryz.prog 112 #[.pointer (some ⟨r, 0, none⟩), .int .i64 m.now] z fun e w' => e = .returned (.int .i64 k) ∧ w' = z) := fun z kz => find_some (h.kp kz) hl I.nodup hk
  obtain ⟨v, vs, h⟩ := h
  have c1 := h.box.at (j := 1) rfl
  have c2 := h.box.at (j := 2) rfl
  obtain ⟨g, c, u, rfl, _, hc1, hc2, hu, q0, q1, q2, q3, _⟩ := h.cell hks
  obtain ⟨ua, ul, uc, rfl⟩ : ∃ a n c, u = .slice a n c := by obtain ⟨a, c, rfl, _⟩ := (h.bys.2 k s u hks hu).1.form; exact ⟨a, _, c, rfl⟩
  have hkN := (List.getElem?_eq_some_iff.1 hks).1
  unfold maxLen at hc2
  generalize m.L.length = N at c1 hkN hc1 hl
  rw [hf] at q3
  clear h hks hk hs hu
  go_enter Tryz.func104, Tryz.ntmps104
  go_upto_region 1 with fail
  refine wp_region_noPanic ?_
  refine wp_region_held_drew (S := fun z => z.cell? ⟨r, 1, none⟩ = some (.slice (some ⟨g, 0, none⟩) N c) ∧ z.cell? ⟨r, 2, none⟩ = some (.int .i64 m.now) ∧ z.cell? ⟨g, k * 4, none⟩ = some (.int .i64 s.seq) ∧ z.cell? ⟨g, k * 4 + 1, none⟩ = some (.int .i64 s.fr) ∧ z.cell? ⟨g, k * 4 + 2, none⟩ = some (.slice ua ul uc) ∧ z.cell? ⟨g, k * 4 + 3, none⟩ = some (.int .i64 (-1))) (by kernel_rfl) (⟨c1, c2, q0, q1, q2, q3⟩) (fun hHeld => ?_)
  refine takeAt 0 (some 5) ?_ rfl rfl (by kernel_rfl) (by kernel_rfl) (by kernel_rfl) (fun _ _ _ h => h) (Or.inl ⟨by rfl, ?_⟩) hHeld ?_
  rotate_left
  · intro w hSw
    go_simp <;> with_reducible rfl
  try simp only [Act.put, List.setIfInBounds_toArray, List.set_cons_zero, List.set_cons_succ]
  refine takeAt 1 (some 6) ?_ rfl rfl (by kernel_rfl) (by kernel_rfl) (by kernel_rfl) (fun _ _ _ h => h) (Or.inl ⟨by rfl, ?_⟩) hHeld ?_
  rotate_left
  · intro w hSw
    go_simp <;> with_reducible rfl
  try simp only [Act.put, List.setIfInBounds_toArray, List.set_cons_zero, List.set_cons_succ]
  refine takeAt 2 (some 7) ?_ rfl rfl (by kernel_rfl) (by kernel_rfl) (by kernel_rfl) (fun _ _ _ h => h) (Or.inl ⟨by rfl, ?_⟩) hHeld ?_
  rotate_left
  · intro w hSw
    go_simp <;> with_reducible rfl
  try simp only [Act.put, List.setIfInBounds_toArray, List.set_cons_zero, List.set_cons_succ]
  refine takeAt 3 (some 8) ?_ rfl rfl (by kernel_rfl) (by kernel_rfl) (by kernel_rfl) (fun _ _ _ h => h) (Or.inl ⟨by rfl, ?_⟩) hHeld ?_
  rotate_left
  · intro w hSw
    go_simp <;> with_reducible rfl
  try simp only [Act.put, List.setIfInBounds_toArray, List.set_cons_zero, List.set_cons_succ]
  refine takeAt 4 (some 9) ?_ rfl rfl (by kernel_rfl) (by kernel_rfl) (by kernel_rfl) (fun _ _ _ h => h) (Or.inl ⟨by rfl, ?_⟩) hHeld ?_
  rotate_left
  · intro w hSw
    go_simp <;> with_reducible rfl
  try simp only [Act.put, List.setIfInBounds_toArray, List.set_cons_zero, List.set_cons_succ]
  refine takeAt 5 (some 10) ?_ rfl rfl (by kernel_rfl) (by kernel_rfl) (by kernel_rfl) (fun _ _ _ h => h) (Or.inl ⟨by rfl, ?_⟩) hHeld ?_
  rotate_left
  · intro w hSw
    go_simp <;> with_reducible rfl
  try simp only [Act.put, List.setIfInBounds_toArray, List.set_cons_zero, List.set_cons_succ]
  refine takeAt 6 (some 11) ?_ rfl rfl (by kernel_rfl) (by kernel_rfl) (by kernel_rfl) (fun _ _ _ h => h) (Or.inl ⟨by rfl, ?_⟩) hHeld ?_
  rotate_left
  · intro w hSw
    go_simp <;> with_reducible rfl
  try simp only [Act.put, List.setIfInBounds_toArray, List.set_cons_zero, List.set_cons_succ]
  refine takeAt 7 (some 12) ?_ rfl rfl (by kernel_rfl) (by kernel_rfl) (by kernel_rfl) (fun _ _ _ h => h) (Or.inl ⟨by rfl, ?_⟩) hHeld ?_
  rotate_left
  · intro w hSw
    go_simp <;> with_reducible rfl
  try simp only [Act.put, List.setIfInBounds_toArray, List.set_cons_zero, List.set_cons_succ]
  refine takeAt 8 (some 13) ?_ rfl rfl (by kernel_rfl) (by kernel_rfl) (by kernel_rfl) (fun _ _ _ h => h) (Or.inl ⟨by rfl, ?_⟩) hHeld ?_
  rotate_left
  · intro w hSw
    go_simp <;> with_reducible rfl
  try simp only [Act.put, List.setIfInBounds_toArray, List.set_cons_zero, List.set_cons_succ]
  refine wpAnyH_ready (rs := [9, 12]) (by kernel_rfl) (by simp) ?_
  refine AllReadyH.cons rfl (fun K hK => ?ca) (AllReadyH.cons rfl (fun K hK => ?cb) AllReadyH.nil)
  case' ca =>
    refine step_call 112 (vals := #[.pointer (some ⟨r, 0, none⟩), .int .i64 m.now]) rfl rfl (by simp [Act.eval]) Tryz.func112 (by kernel_rfl) (by kernel_rfl) ?_
    refine Calls.mono (HF.out _ (by first | exact Below.refl _ _ | exact kp_drew _)) ?_
    rintro e w3 ⟨rfl, rfl⟩
    refine ⟨_, rfl, ?_⟩
    refine hK.out _ _ hHeld (fun hHeld => ?_)
    clear hK K
    try simp only [Act.put, List.setIfInBounds_toArray, List.set_cons_zero, List.set_cons_succ]
    refine takeAt 10 (some 15) ?_ rfl rfl (by kernel_rfl) (by kernel_rfl) (by kernel_rfl) (fun _ _ _ h => h) (Or.inl ⟨by rfl, ?_⟩) hHeld ?_
    rotate_left
    · intro w hSw
      go_simp <;> with_reducible rfl
    try simp only [Act.put, List.setIfInBounds_toArray, List.set_cons_zero, List.set_cons_succ]
    refine takeAt 11 (some 16) ?_ rfl rfl (by kernel_rfl) (by kernel_rfl) (by kernel_rfl) (fun _ _ _ h => h) (Or.inl ⟨by rfl, ?_⟩) hHeld ?_
    rotate_left
    · intro w hSw
      go_simp <;> with_reducible rfl
    try simp only [Act.put, List.setIfInBounds_toArray, List.set_cons_zero, List.set_cons_succ]
    refine wpAnyH_ready (rs := [12]) (by kernel_rfl) (by simp) ?_
    refine AllReadyH.cons rfl (fun K hK => ?_) AllReadyH.nil
    go_simp
    refine hK.out _ _ (⟨kp_cell (kp_trans (kp_alloc _ _) (kp_drew _)) c1, kp_cell (kp_trans (kp_alloc _ _) (kp_drew _)) c2, kp_cell (kp_trans (kp_alloc _ _) (kp_drew _)) q0, kp_cell (kp_trans (kp_alloc _ _) (kp_drew _)) q1, kp_cell (kp_trans (kp_alloc _ _) (kp_drew _)) q2, kp_cell (kp_trans (kp_alloc _ _) (kp_drew _)) q3⟩) (fun hHeld => ?_)
    clear hK K
    try simp only [Act.put, List.setIfInBounds_toArray, List.set_cons_zero, List.set_cons_succ]
    refine wpAnyH_ready (rs := [13]) (by kernel_rfl) (by simp) ?_
    refine AllReadyH.cons rfl (fun K hK => ?_) AllReadyH.nil
    go_simp
    refine hK.out _ _ (⟨kp_cell (kp_trans (kp_alloc _ _) (kp_drew _)) c1, kp_cell (kp_trans (kp_alloc _ _) (kp_drew _)) c2, kp_cell (kp_trans (kp_alloc _ _) (kp_drew _)) q0, kp_cell (kp_trans (kp_alloc _ _) (kp_drew _)) q1, kp_cell (kp_trans (kp_alloc _ _) (kp_drew _)) q2, kp_cell (kp_trans (kp_alloc _ _) (kp_drew _)) q3⟩) (fun hHeld => ?_)
    clear hK K
    try simp only [Act.put, List.setIfInBounds_toArray, List.set_cons_zero, List.set_cons_succ]
    refine wpAnyH_done (by kernel_rfl) ?_ _
    refine NoPanic.normal ?_
  case' cb =>
    go_simp
    refine hK.out _ _ (⟨kp_cell (kp_trans (kp_alloc _ _) (kp_drew _)) c1, kp_cell (kp_trans (kp_alloc _ _) (kp_drew _)) c2, kp_cell (kp_trans (kp_alloc _ _) (kp_drew _)) q0, kp_cell (kp_trans (kp_alloc _ _) (kp_drew _)) q1, kp_cell (kp_trans (kp_alloc _ _) (kp_drew _)) q2, kp_cell (kp_trans (kp_alloc _ _) (kp_drew _)) q3⟩) (fun hHeld => ?_)
    clear hK K
    try simp only [Act.put, List.setIfInBounds_toArray, List.set_cons_zero, List.set_cons_succ]
    refine callAt 9 14 112 (vals := #[.pointer (some ⟨r, 0, none⟩), .int .i64 m.now]) (by kernel_rfl) rfl rfl rfl rfl (by simp [Act.eval]) Tryz.func112 (by kernel_rfl) (by kernel_rfl) ?_
    refine Calls.mono (HF.out _ (kp_trans (kp_alloc _ _) (kp_drew _))) ?_
    rintro e w3 ⟨rfl, rfl⟩
    refine ⟨_, rfl, hHeld, fun hHeld => ?_⟩
    try simp only [Act.put, List.setIfInBounds_toArray, List.set_cons_zero, List.set_cons_succ]
    refine takeAt 10 (some 15) ?_ rfl rfl (by kernel_rfl) (by kernel_rfl) (by kernel_rfl) (fun _ _ _ h => h) (Or.inl ⟨by rfl, ?_⟩) hHeld ?_
    rotate_left
    · intro w hSw
      go_simp <;> with_reducible rfl
    try simp only [Act.put, List.setIfInBounds_toArray, List.set_cons_zero, List.set_cons_succ]
    refine takeAt 11 (some 16) ?_ rfl rfl (by kernel_rfl) (by kernel_rfl) (by kernel_rfl) (fun _ _ _ h => h) (Or.inl ⟨by rfl, ?_⟩) hHeld ?_
    rotate_left
    · intro w hSw
      go_simp <;> with_reducible rfl
    try simp only [Act.put, List.setIfInBounds_toArray, List.set_cons_zero, List.set_cons_succ]
    refine wpAnyH_ready (rs := [13]) (by kernel_rfl) (by simp) ?_
    refine AllReadyH.cons rfl (fun K hK => ?_) AllReadyH.nil
    go_simp
    refine hK.out _ _ (⟨kp_cell (kp_trans (kp_alloc _ _) (kp_drew _)) c1, kp_cell (kp_trans (kp_alloc _ _) (kp_drew _)) c2, kp_cell (kp_trans (kp_alloc _ _) (kp_drew _)) q0, kp_cell (kp_trans (kp_alloc _ _) (kp_drew _)) q1, kp_cell (kp_trans (kp_alloc _ _) (kp_drew _)) q2, kp_cell (kp_trans (kp_alloc _ _) (kp_drew _)) q3⟩) (fun hHeld => ?_)
    clear hK K
    try simp only [Act.put, List.setIfInBounds_toArray, List.set_cons_zero, List.set_cons_succ]
    refine wpAnyH_done (by kernel_rfl) ?_ _
    refine NoPanic.normal ?_
  all_goals
    go_wp2_with fail
    go_ret2
    exact ⟨rfl, kp_trans (kp_alloc _ _) (kp_drew _)⟩
set_option maxHeartbeats 16000000 in
theorem rredo_any (h : Rw B C r m w) (I : Inv m) (hl : m.L.length ≤ 250) (hB : B ≤ w.heap.size) {s s' : St} (hs : look m.L m.now = some s) (hf : s.on ≠ -1) (hs2 : look m.L s.on = some s') :
    Calls Tryz.prog 104 #[.pointer (some ⟨r, 0, none⟩)] w fun e w' => ∃ v, e = .returned (.tuple #[v, .int .i64 0]) ∧ GoneR B C r w v s'.by_ { m with now := s.on } w' := by
  have hfr := I.fam.fr _ _ hs2
  obtain ⟨k, hk⟩ := idx_of (L := m.L) (x := m.now) (by rw [hs]; simp)
  obtain ⟨k2, hk2⟩ := idx_of (L := m.L) (x := s.on) (by rw [hs2]; simp)
  have hks := at_of I.sq hk hs
  have hks2 := at_of I.sq hk2 hs2
  have HF : Hid (∀ z, Kp w z → Calls Tryz.prog 112 #[.pointer (some ⟨r, 0, none⟩), .int .i64 m.now] z fun e w' => e = .returned (.int .i64 k) ∧ w' = z) := fun z kz => find_some (h.kp kz) hl I.nodup hk
  obtain ⟨v, vs, h⟩ := h
  have c1 := h.box.at (j := 1) rfl
  have c2 := h.box.at (j := 2) rfl
  obtain ⟨g, c, u, rfl, hBg, hc1, hc2, hu, q0, q1, q2, q3, _⟩ := h.cell hks
  obtain ⟨g2, c', u2, e2, _, _, _, hu2, _, _, q7, _, fz⟩ := h.cell hks2
  cases e2
  have hby := (h.bys.2 k2 s' u2 hks2 hu2).1
  obtain ⟨ua, ul, uc, rfl⟩ : ∃ a n c, u = .slice a n c := by obtain ⟨a, c, rfl, _⟩ := (h.bys.2 k s u hks hu).1.form; exact ⟨a, _, c, rfl⟩
  obtain ⟨ta, tl, tc, rfl⟩ : ∃ a n c, u2 = .slice a n c := by obtain ⟨a, c, rfl, _⟩ := hby.form; exact ⟨a, _, c, rfl⟩
  have hkN := (List.getElem?_eq_some_iff.1 hks).1
  have hkN2 := (List.getElem?_eq_some_iff.1 hks2).1
  unfold maxLen at hc2
  obtain ⟨W1, hW1⟩ : ∃ W1, (w.alloc (.cells #[.int .i64 s.seq, .int .i64 s.fr, .slice ua ul uc, .int .i64 s.on] 150)).drew = W1 := ⟨_, rfl⟩
  have HW1 : Hid (_ = W1) := hW1
  have k1 : Kp w W1 := by rw [← hW1]; exact kp_trans (kp_alloc _ _) (kp_drew _)
  have b1 : Lc 150 w.heap.size [.int .i64 s.seq, .int .i64 s.fr, .slice ua ul uc, .int .i64 s.on] W1 := by rw [← hW1]; exact (Lc.new w _ _).kp (kp_drew _)
  have hgb : g < w.heap.size := World.block_lt_of_cell? _ _ q0
  have hrb : r < w.heap.size := h.box.lt
  obtain ⟨r4, r5⟩ := (h.kp k1).now s.on
  obtain ⟨W3, hW3⟩ : ∃ W3, W1.setCell ⟨r, 2, none⟩ (.int .i64 s.on) = W3 := ⟨_, rfl⟩
  have HW3 : Hid (_ = W3) := hW3
  rw [hW3] at r4 r5
  have f3 : Ff TQ B w W3 := (Ff.kp k1).trans r5
  have b3 : Lc 150 w.heap.size [.int .i64 s.seq, .int .i64 s.fr, .slice ua ul uc, .int .i64 s.on] W3 := by rw [← hW3]; exact b1.other (by omega)
  have hfew := I.fam.few _ _ hs2
  have HF2 : Hid (∀ z, Kp W3 z → Calls Tryz.prog 112 #[.pointer (some ⟨r, 0, none⟩), .int .i64 s.on] z fun e w' => e = .returned (.int .i64 k2) ∧ w' = z) := fun z kz => find_some (m := { m with now := s.on }) ⟨_, _, r4.kp kz⟩ hl I.nodup hk2
  have HL : Hid (∀ z, Kp W3 z → Calls Tryz.prog 111 #[.slice ta tl tc] z fun e w' => ∃ v', e = .returned v' ∧ GoneR B C r w v' s'.by_ { m with now := s.on } w' ∧ Kp W3 w') := fun z kz => by
    refine (lent_any (okRow 0 0) ((hby.ff f3 (tq_of (by decide) (by decide)) (tq_of (by decide) (by decide))).kp (okRow _ _) kz).dr (N := 2000) hfew (by omega)).mono ?_
    rintro e w' ⟨v', rfl, d5, k5⟩
    have k6 := kp_trans kz k5
    exact ⟨v', rfl, ⟨d5.lower (Nat.le_trans f3.size kz.size) (Nat.le_trans f3.size kz.size), ⟨_, _, r4.kp k6⟩, f3.trans (Ff.kp k6)⟩, k6⟩
  have y3 := b1.at (j := 3) rfl
  have y5 := r4.box.at (j := 1) rfl
  have y6 := kp_cell k1 c2
  have y7 := (h.box.kp k1).fz 2
  have z3 := b3.at (j := 3) rfl
  have z7 : W3.cell? ⟨g, k2 * 4 + 2, none⟩ = some (.slice ta tl tc) := by
    obtain ⟨g9, c9, u9, e9, _, _, _, hu9, _, _, q9, _⟩ := r4.cell (m := { m with now := s.on }) hks2
    cases e9
    rw [hu2] at hu9; cases hu9
    exact q9
  have dlt : decide (s.on < 0) = false := decide_eq_false (by omega)
  have HK1 : Hid (Kp w W1) := k1
  generalize m.L.length = N at c1 y5 hkN hkN2 hc1 hl
  clear h hks hk hs hu hks2 hk2 hs2 r4 r5 f3 b1 b3 hW1 hW3 hby k1 q7 fz hfr I hu2
  go_enter Tryz.func104, Tryz.ntmps104
  go_upto_region 1 with fail
  refine wp_region_noPanic ?_
  refine wp_region_held_drew (S := fun z => z.cell? ⟨r, 1, none⟩ = some (.slice (some ⟨g, 0, none⟩) N c) ∧ z.cell? ⟨r, 2, none⟩ = some (.int .i64 m.now) ∧ z.cell? ⟨g, k * 4, none⟩ = some (.int .i64 s.seq) ∧ z.cell? ⟨g, k * 4 + 1, none⟩ = some (.int .i64 s.fr) ∧ z.cell? ⟨g, k * 4 + 2, none⟩ = some (.slice ua ul uc) ∧ z.cell? ⟨g, k * 4 + 3, none⟩ = some (.int .i64 s.on)) (by kernel_rfl) (⟨c1, c2, q0, q1, q2, q3⟩) (fun hHeld => ?_)
  refine takeAt 0 (some 5) ?_ rfl rfl (by kernel_rfl) (by kernel_rfl) (by kernel_rfl) (fun _ _ _ h => h) (Or.inl ⟨by rfl, ?_⟩) hHeld ?_
  rotate_left
  · intro w hSw
    go_simp <;> with_reducible rfl
  try simp only [Act.put, List.setIfInBounds_toArray, List.set_cons_zero, List.set_cons_succ]
  refine takeAt 1 (some 6) ?_ rfl rfl (by kernel_rfl) (by kernel_rfl) (by kernel_rfl) (fun _ _ _ h => h) (Or.inl ⟨by rfl, ?_⟩) hHeld ?_
  rotate_left
  · intro w hSw
    go_simp <;> with_reducible rfl
  try simp only [Act.put, List.setIfInBounds_toArray, List.set_cons_zero, List.set_cons_succ]
  refine takeAt 2 (some 7) ?_ rfl rfl (by kernel_rfl) (by kernel_rfl) (by kernel_rfl) (fun _ _ _ h => h) (Or.inl ⟨by rfl, ?_⟩) hHeld ?_
  rotate_left
  · intro w hSw
    go_simp <;> with_reducible rfl
  try simp only [Act.put, List.setIfInBounds_toArray, List.set_cons_zero, List.set_cons_succ]
  refine takeAt 3 (some 8) ?_ rfl rfl (by kernel_rfl) (by kernel_rfl) (by kernel_rfl) (fun _ _ _ h => h) (Or.inl ⟨by rfl, ?_⟩) hHeld ?_
  rotate_left
  · intro w hSw
    go_simp <;> with_reducible rfl
  try simp only [Act.put, List.setIfInBounds_toArray, List.set_cons_zero, List.set_cons_succ]
  refine takeAt 4 (some 9) ?_ rfl rfl (by kernel_rfl) (by kernel_rfl) (by kernel_rfl) (fun _ _ _ h => h) (Or.inl ⟨by rfl, ?_⟩) hHeld ?_
  rotate_left
  · intro w hSw
    go_simp <;> with_reducible rfl
  try simp only [Act.put, List.setIfInBounds_toArray, List.set_cons_zero, List.set_cons_succ]
  refine takeAt 5 (some 10) ?_ rfl rfl (by kernel_rfl) (by kernel_rfl) (by kernel_rfl) (fun _ _ _ h => h) (Or.inl ⟨by rfl, ?_⟩) hHeld ?_
  rotate_left
  · intro w hSw
    go_simp <;> with_reducible rfl
  try simp only [Act.put, List.setIfInBounds_toArray, List.set_cons_zero, List.set_cons_succ]
  refine takeAt 6 (some 11) ?_ rfl rfl (by kernel_rfl) (by kernel_rfl) (by kernel_rfl) (fun _ _ _ h => h) (Or.inl ⟨by rfl, ?_⟩) hHeld ?_
  rotate_left
  · intro w hSw
    go_simp <;> with_reducible rfl
  try simp only [Act.put, List.setIfInBounds_toArray, List.set_cons_zero, List.set_cons_succ]
  refine takeAt 7 (some 12) ?_ rfl rfl (by kernel_rfl) (by kernel_rfl) (by kernel_rfl) (fun _ _ _ h => h) (Or.inl ⟨by rfl, ?_⟩) hHeld ?_
  rotate_left
  · intro w hSw
    go_simp <;> with_reducible rfl
  try simp only [Act.put, List.setIfInBounds_toArray, List.set_cons_zero, List.set_cons_succ]
  refine takeAt 8 (some 13) ?_ rfl rfl (by kernel_rfl) (by kernel_rfl) (by kernel_rfl) (fun _ _ _ h => h) (Or.inl ⟨by rfl, ?_⟩) hHeld ?_
  rotate_left
  · intro w hSw
    go_simp <;> with_reducible rfl
  try simp only [Act.put, List.setIfInBounds_toArray, List.set_cons_zero, List.set_cons_succ]
  refine wpAnyH_ready (rs := [9, 12]) (by kernel_rfl) (by simp) ?_
  refine AllReadyH.cons rfl (fun K hK => ?ca) (AllReadyH.cons rfl (fun K hK => ?cb) AllReadyH.nil)
  case' ca =>
    refine step_call 112 (vals := #[.pointer (some ⟨r, 0, none⟩), .int .i64 m.now]) rfl rfl (by simp [Act.eval]) Tryz.func112 (by kernel_rfl) (by kernel_rfl) ?_
    refine Calls.mono (HF.out _ (by first | exact Below.refl _ _ | exact kp_drew _)) ?_
    rintro e w3 ⟨rfl, rfl⟩
    refine ⟨_, rfl, ?_⟩
    refine hK.out _ _ hHeld (fun hHeld => ?_)
    clear hK K
    try simp only [Act.put, List.setIfInBounds_toArray, List.set_cons_zero, List.set_cons_succ]
    refine takeAt 10 (some 15) ?_ rfl rfl (by kernel_rfl) (by kernel_rfl) (by kernel_rfl) (fun _ _ _ h => h) (Or.inl ⟨by rfl, ?_⟩) hHeld ?_
    rotate_left
    · intro w hSw
      go_simp <;> with_reducible rfl
    try simp only [Act.put, List.setIfInBounds_toArray, List.set_cons_zero, List.set_cons_succ]
    refine takeAt 11 (some 16) ?_ rfl rfl (by kernel_rfl) (by kernel_rfl) (by kernel_rfl) (fun _ _ _ h => h) (Or.inl ⟨by rfl, ?_⟩) hHeld ?_
    rotate_left
    · intro w hSw
      go_simp <;> with_reducible rfl
    try simp only [Act.put, List.setIfInBounds_toArray, List.set_cons_zero, List.set_cons_succ]
    refine wpAnyH_ready (rs := [12]) (by kernel_rfl) (by simp) ?_
    refine AllReadyH.cons rfl (fun K hK => ?_) AllReadyH.nil
    go_simp
    refine hK.out _ _ (⟨kp_cell (kp_trans (kp_alloc _ _) (kp_drew _)) c1, kp_cell (kp_trans (kp_alloc _ _) (kp_drew _)) c2, kp_cell (kp_trans (kp_alloc _ _) (kp_drew _)) q0, kp_cell (kp_trans (kp_alloc _ _) (kp_drew _)) q1, kp_cell (kp_trans (kp_alloc _ _) (kp_drew _)) q2, kp_cell (kp_trans (kp_alloc _ _) (kp_drew _)) q3⟩) (fun hHeld => ?_)
    clear hK K
    try simp only [Act.put, List.setIfInBounds_toArray, List.set_cons_zero, List.set_cons_succ]
    refine wpAnyH_ready (rs := [13]) (by kernel_rfl) (by simp) ?_
    refine AllReadyH.cons rfl (fun K hK => ?_) AllReadyH.nil
    go_simp
    refine hK.out _ _ (⟨kp_cell (kp_trans (kp_alloc _ _) (kp_drew _)) c1, kp_cell (kp_trans (kp_alloc _ _) (kp_drew _)) c2, kp_cell (kp_trans (kp_alloc _ _) (kp_drew _)) q0, kp_cell (kp_trans (kp_alloc _ _) (kp_drew _)) q1, kp_cell (kp_trans (kp_alloc _ _) (kp_drew _)) q2, kp_cell (kp_trans (kp_alloc _ _) (kp_drew _)) q3⟩) (fun hHeld => ?_)
    clear hK K
    try simp only [Act.put, List.setIfInBounds_toArray, List.set_cons_zero, List.set_cons_succ]
    refine wpAnyH_done (by kernel_rfl) ?_ _
    refine NoPanic.normal ?_
  case' cb =>
    go_simp
    refine hK.out _ _ (⟨kp_cell (kp_trans (kp_alloc _ _) (kp_drew _)) c1, kp_cell (kp_trans (kp_alloc _ _) (kp_drew _)) c2, kp_cell (kp_trans (kp_alloc _ _) (kp_drew _)) q0, kp_cell (kp_trans (kp_alloc _ _) (kp_drew _)) q1, kp_cell (kp_trans (kp_alloc _ _) (kp_drew _)) q2, kp_cell (kp_trans (kp_alloc _ _) (kp_drew _)) q3⟩) (fun hHeld => ?_)
    clear hK K
    try simp only [Act.put, List.setIfInBounds_toArray, List.set_cons_zero, List.set_cons_succ]
    refine callAt 9 14 112 (vals := #[.pointer (some ⟨r, 0, none⟩), .int .i64 m.now]) (by kernel_rfl) rfl rfl rfl rfl (by simp [Act.eval]) Tryz.func112 (by kernel_rfl) (by kernel_rfl) ?_
    refine Calls.mono (HF.out _ (kp_trans (kp_alloc _ _) (kp_drew _))) ?_
    rintro e w3 ⟨rfl, rfl⟩
    refine ⟨_, rfl, hHeld, fun hHeld => ?_⟩
    try simp only [Act.put, List.setIfInBounds_toArray, List.set_cons_zero, List.set_cons_succ]
    refine takeAt 10 (some 15) ?_ rfl rfl (by kernel_rfl) (by kernel_rfl) (by kernel_rfl) (fun _ _ _ h => h) (Or.inl ⟨by rfl, ?_⟩) hHeld ?_
    rotate_left
    · intro w hSw
      go_simp <;> with_reducible rfl
    try simp only [Act.put, List.setIfInBounds_toArray, List.set_cons_zero, List.set_cons_succ]
    refine takeAt 11 (some 16) ?_ rfl rfl (by kernel_rfl) (by kernel_rfl) (by kernel_rfl) (fun _ _ _ h => h) (Or.inl ⟨by rfl, ?_⟩) hHeld ?_
    rotate_left
    · intro w hSw
      go_simp <;> with_reducible rfl
    try simp only [Act.put, List.setIfInBounds_toArray, List.set_cons_zero, List.set_cons_succ]
    refine wpAnyH_ready (rs := [13]) (by kernel_rfl) (by simp) ?_
    refine AllReadyH.cons rfl (fun K hK => ?_) AllReadyH.nil
    go_simp
    refine hK.out _ _ (⟨kp_cell (kp_trans (kp_alloc _ _) (kp_drew _)) c1, kp_cell (kp_trans (kp_alloc _ _) (kp_drew _)) c2, kp_cell (kp_trans (kp_alloc _ _) (kp_drew _)) q0, kp_cell (kp_trans (kp_alloc _ _) (kp_drew _)) q1, kp_cell (kp_trans (kp_alloc _ _) (kp_drew _)) q2, kp_cell (kp_trans (kp_alloc _ _) (kp_drew _)) q3⟩) (fun hHeld => ?_)
    clear hK K
    try simp only [Act.put, List.setIfInBounds_toArray, List.set_cons_zero, List.set_cons_succ]
    refine wpAnyH_done (by kernel_rfl) ?_ _
    refine NoPanic.normal ?_
  all_goals
    rw [HW1.out]
    go_upto_region 5 with fail
    rw [HW3.out]
    refine wp_region_noPanic ?_
    refine wp_region_held_drew (S := fun z => z.cell? ⟨r, 1, none⟩ = some (.slice (some ⟨g, 0, none⟩) N c) ∧ z.cell? ⟨w.heap.size, 3, none⟩ = some (.int .i64 s.on) ∧ z.cell? ⟨g, k2 * 4 + 2, none⟩ = some (.slice ta tl tc)) (by kernel_rfl) (⟨y5, z3, z7⟩) (fun hHeld => ?_)
    refine takeAt 0 (some 25) ?_ rfl rfl (by kernel_rfl) (by kernel_rfl) (by kernel_rfl) (fun _ _ _ h => h) (Or.inl ⟨by rfl, ?_⟩) hHeld ?_
    rotate_left
    · intro w hSw
      go_simp <;> with_reducible rfl
    try simp only [Act.put, List.setIfInBounds_toArray, List.set_cons_zero, List.set_cons_succ]
    refine takeAt 1 (some 26) ?_ rfl rfl (by kernel_rfl) (by kernel_rfl) (by kernel_rfl) (fun _ _ _ h => h) (Or.inl ⟨by rfl, ?_⟩) hHeld ?_
    rotate_left
    · intro w hSw
      go_simp <;> with_reducible rfl
    try simp only [Act.put, List.setIfInBounds_toArray, List.set_cons_zero, List.set_cons_succ]
    refine takeAt 2 (some 27) ?_ rfl rfl (by kernel_rfl) (by kernel_rfl) (by kernel_rfl) (fun _ _ _ h => h) (Or.inl ⟨by rfl, ?_⟩) hHeld ?_
    rotate_left
    · intro w hSw
      go_simp <;> with_reducible rfl
    try simp only [Act.put, List.setIfInBounds_toArray, List.set_cons_zero, List.set_cons_succ]
    refine takeAt 3 (some 28) ?_ rfl rfl (by kernel_rfl) (by kernel_rfl) (by kernel_rfl) (fun _ _ _ h => h) (Or.inl ⟨by rfl, ?_⟩) hHeld ?_
    rotate_left
    · intro w hSw
      go_simp <;> with_reducible rfl
    try simp only [Act.put, List.setIfInBounds_toArray, List.set_cons_zero, List.set_cons_succ]
    refine takeAt 4 (some 29) ?_ rfl rfl (by kernel_rfl) (by kernel_rfl) (by kernel_rfl) (fun _ _ _ h => h) (Or.inl ⟨by rfl, ?_⟩) hHeld ?_
    rotate_left
    · intro w hSw
      go_simp <;> with_reducible rfl
    try simp only [Act.put, List.setIfInBounds_toArray, List.set_cons_zero, List.set_cons_succ]
    refine takeAt 5 (some 30) ?_ rfl rfl (by kernel_rfl) (by kernel_rfl) (by kernel_rfl) (fun _ _ _ h => h) (Or.inl ⟨by rfl, ?_⟩) hHeld ?_
    rotate_left
    · intro w hSw
      go_simp <;> with_reducible rfl
    try simp only [Act.put, List.setIfInBounds_toArray, List.set_cons_zero, List.set_cons_succ]
    refine takeAt 6 (some 31) ?_ rfl rfl (by kernel_rfl) (by kernel_rfl) (by kernel_rfl) (fun _ _ _ h => h) (Or.inl ⟨by rfl, ?_⟩) hHeld ?_
    rotate_left
    · intro w hSw
      go_simp <;> with_reducible rfl
    try simp only [Act.put, List.setIfInBounds_toArray, List.set_cons_zero, List.set_cons_succ]
    refine callAt 7 32 112 (vals := #[.pointer (some ⟨r, 0, none⟩), .int .i64 s.on]) (by kernel_rfl) rfl rfl rfl rfl (by simp [Act.eval]) Tryz.func112 (by kernel_rfl) (by kernel_rfl) ?_
    refine Calls.mono (HF2.out _ (by first | exact Below.refl _ _ | exact kp_drew _)) ?_
    rintro e w4 ⟨rfl, rfl⟩
    refine ⟨_, rfl, hHeld, fun hHeld => ?_⟩
    try simp only [Act.put, List.setIfInBounds_toArray, List.set_cons_zero, List.set_cons_succ]
    refine takeAt 8 (some 33) ?_ rfl rfl (by kernel_rfl) (by kernel_rfl) (by kernel_rfl) (fun _ _ _ h => h) (Or.inl ⟨by rfl, ?_⟩) hHeld ?_
    rotate_left
    · intro w hSw
      go_simp <;> with_reducible rfl
    try simp only [Act.put, List.setIfInBounds_toArray, List.set_cons_zero, List.set_cons_succ]
    refine takeAt 9 (some 34) ?_ rfl rfl (by kernel_rfl) (by kernel_rfl) (by kernel_rfl) (fun _ _ _ h => h) (Or.inl ⟨by rfl, ?_⟩) hHeld ?_
    rotate_left
    · intro w hSw
      go_simp <;> with_reducible rfl
    try simp only [Act.put, List.setIfInBounds_toArray, List.set_cons_zero, List.set_cons_succ]
    refine takeAt 10 (some 35) ?_ rfl rfl (by kernel_rfl) (by kernel_rfl) (by kernel_rfl) (fun _ _ _ h => h) (Or.inl ⟨by rfl, ?_⟩) hHeld ?_
    rotate_left
    · intro w hSw
      go_simp <;> with_reducible rfl
    try simp only [Act.put, List.setIfInBounds_toArray, List.set_cons_zero, List.set_cons_succ]
    refine callAt 11 36 111 (vals := #[.slice ta tl tc]) (by kernel_rfl) rfl rfl rfl rfl (by simp [Act.eval]) Tryz.func111 (by kernel_rfl) (by kernel_rfl) ?_
    refine Calls.mono (HL.out _ (by first | exact Below.refl _ _ | exact kp_drew _)) ?_
    rintro e w5 ⟨v5, rfl, q5, k5⟩
    have H5 : Hid _ := q5
    clear q5
    refine ⟨_, rfl, ⟨kp_cell k5 y5, kp_cell k5 z3, kp_cell k5 z7⟩, fun hHeld => ?_⟩
    try simp only [Act.put, List.setIfInBounds_toArray, List.set_cons_zero, List.set_cons_succ]
    refine wpAnyH_ready (rs := [12]) (by kernel_rfl) (by simp) ?_
    refine AllReadyH.cons rfl (fun K hK => ?_) AllReadyH.nil
    go_simp
    refine hK.out _ _ (hHeld) (fun hHeld => ?_)
    clear hK K
    try simp only [Act.put, List.setIfInBounds_toArray, List.set_cons_zero, List.set_cons_succ]
    refine wpAnyH_ready (rs := [13]) (by kernel_rfl) (by simp) ?_
    refine AllReadyH.cons rfl (fun K hK => ?_) AllReadyH.nil
    go_simp
    refine hK.out _ _ (hHeld) (fun hHeld => ?_)
    clear hK K
    try simp only [Act.put, List.setIfInBounds_toArray, List.set_cons_zero, List.set_cons_succ]
    refine wpAnyH_done (by kernel_rfl) ?_ _
    refine NoPanic.normal ?_
    go_wp2_with fail
    go_ret2
    exact ⟨_, rfl, H5.out⟩
end
end Go.Proofs.YtaefeakmlgjonaaGreat
/- The document's Add, as long as there is room. -/
namespace Go.Proofs.YtaefeakmlgjonaaGreat
open Go.ChangeShapes Go.WideShapes Go.ChangeAt Go.RowKit Go.Maps Go.MapKept
set_option linter.unusedVariables false
set_option linter.unusedSimpArgs false
set_option maxRecDepth 100000
theorem infoRS : (Tryz.prog.info? 150).map (fun i => (i.zero, i.size, i.bytes)) = some (some (.agg #[.int .i64 0, .int .i64 0, .slice none 0 0, .int .i64 0]), 4, 48) := by kernel_rfl
section
variable {B C r : Nat} {v : Value} {vs : List Value} {m : Tr} {w w1 : World}
theorem Rb.nxt (h : Rb B C r v vs m w) (x : Int) : Rb B C r v vs { m with next := x } (w.setCell ⟨r, 3, none⟩ (.int .i64 x)) ∧ Ff TQ B w (w.setCell ⟨r, 3, none⟩ (.int .i64 x)) := by
  have f := fr_set r 3 (.int .i64 x) w
  have ff : Ff TQ B w (w.setCell ⟨r, 3, none⟩ (.int .i64 x)) := Ff.on f h.lr h.box (.inl rfl)
  exact ⟨⟨h.lr, h.box.set 3 _, row_fr h.row f fun j hj e => row_ne h.row h.box (by decide) (by rw [hj, e]), h.bys.ff ff (tq_of (by decide) (by decide)) (tq_of (by decide) (by decide))⟩, ff⟩
/-- One state more is laid behind the others. -/
theorem Rb.add (h : Rb B C r v vs m w) {s : St} {u v' : Value} (hu : Dw 0 u s.by_ w) {w5 : World} (hr : w5.ownsRow B 150 4 v' (m.L.length + 1) (flatR m.L vs ++ [.int .i64 s.seq, .int .i64 s.fr, u, .int .i64 s.on])) (hg : w.grownBy w5 v.ownBlock) :
    Rb B w5.heap.size r v' (vs ++ [u]) { m with L := m.L ++ [s] } (w5.setCell ⟨r, 1, none⟩ v') ∧ Ff TQ B w (w5.setCell ⟨r, 1, none⟩ v') := by
  have f0 : Ff TQ B w w5 := Fr.mono (fr_grown hg) fun k _ e => by
    rcases h.row.2 with ⟨z, _⟩ | ⟨g, c, cur, z, hb, hgg, _⟩
    · rw [z] at e; cases e
    · rw [z] at e; simp only [Value.ownBlock, Option.some.injEq] at e; subst e; exact ⟨hb, _, hgg, .inr rfl⟩
  have b5 : Lc 153 r [.int .i64 m.most, v, .int .i64 m.now, .int .i64 m.next] w5 := h.box.fr (fr_grown hg) fun e => row_ne h.row h.box (by decide) e.symm
  have f := fr_set r 1 v' w5
  have f1 : Ff TQ B w5 (w5.setCell ⟨r, 1, none⟩ v') := Ff.on f h.lr b5 (.inl rfl)
  have ff := f0.trans f1
  refine ⟨⟨h.lr, b5.set 1 _, ?_, ?_, fun i s' u' h1 h2 => ?_⟩, ff⟩
  · show World.ownsRow _ B _ 4 v' (m.L ++ [s]).length (flatR (m.L ++ [s]) (vs ++ [u]))
    rw [List.length_append, List.length_singleton, flatR_snoc _ _ _ _ h.bys.1]
    exact row_fr hr f fun j hj e => row_ne hr b5 (by decide) (by rw [hj, e])
  · show (vs ++ [u]).length = (m.L ++ [s]).length
    rw [List.length_append, List.length_append, h.bys.1]; rfl
  · have h1' : (m.L ++ [s])[i]? = some s' := h1
    have key : Dw 0 u' s'.by_ w := by
      by_cases q : i < m.L.length
      · rw [List.getElem?_append_left q] at h1'
        rw [List.getElem?_append_left (by rw [h.bys.1]; exact q)] at h2
        exact (h.bys.2 i s' u' h1' h2).1
      · have hl := (List.getElem?_eq_some_iff.1 h1').1
        simp only [List.length_append, List.length_singleton] at hl
        obtain rfl : i = m.L.length := by omega
        rw [List.getElem?_append_right (Nat.le_refl _), Nat.sub_self] at h1'
        rw [List.getElem?_append_right (by rw [h.bys.1]; exact Nat.le_refl _), h.bys.1, Nat.sub_self] at h2
        cases h1'; cases h2
        exact hu
    have k5 := key.ff f0 (tq_of (by decide) (by decide)) (tq_of (by decide) (by decide))
    refine ⟨k5.ff f1 (tq_of (by decide) (by decide)) (tq_of (by decide) (by decide)), fun j hj => ?_⟩
    obtain ⟨cs, r1, _⟩ := k5
    exact (r1.lt j hj).2
theorem Rb.onN {g c i n : Nat} (h : Rb B C r (.slice (some ⟨g, 0, none⟩) n c) vs m w) (hn : n = m.L.length) (hnd : (m.L.map St.seq).Nodup) {x : Int} (hi : (m.L.map St.seq)[i]? = some x) (y : Int) : Rb B C r (.slice (some ⟨g, 0, none⟩) n c) vs { m with L := setOn m.L x y } (w.setCell ⟨g, i * 4 + 3, none⟩ (.int .i64 y)) ∧ Ff TQ B w (w.setCell ⟨g, i * 4 + 3, none⟩ (.int .i64 y)) := by
  subst hn; exact h.on hnd hi y
theorem nd_snoc (I : Inv m) (ds : List Dl) : ((m.L ++ [(⟨m.next, m.now, -1, ds⟩ : St)]).map St.seq).Nodup := by
  rw [List.map_append, List.map_singleton, List.nodup_append]
  refine ⟨I.nodup, by simp, fun x hx y hy => ?_⟩
  simp only [List.mem_singleton] at hy
  subst hy
  obtain ⟨s, hs⟩ := Option.ne_none_iff_exists'.1 (look_ne.2 hx)
  have := I.fam.fr _ _ hs
  show x ≠ m.next
  omega
set_option maxHeartbeats 16000000 in
theorem radd_few (h : Rw B C r m w) (I : Inv m) (hn : m.next ≤ 10000) (hl : m.L.length ≤ 240) (hm : (m.L.length : Int) + 1 ≤ m.most) (hB : B ≤ w.heap.size)
    {P : Nat → Prop} {X : Xl} {D : Nat} (ok : Okx D X) {dv : Value} {ds : List Dl} (hd : Dr P X dv ds w) (hX : ∀ {v ls w w'}, X v ls w → Ff TQ B w w' → X v ls w') (hP : ∀ {w w'}, Ff TQ B w w' → Dr P X dv ds w → Dr P X dv ds w') {N : Nat} (hf : Few N ds) (hN : N ≤ 2513169434916) :
    Calls Tryz.prog 70 #[.pointer (some ⟨r, 0, none⟩), dv] w fun e w' => e = .returned (.int .i64 m.next) ∧ Rw B w'.heap.size r (addT m ds) w' ∧ Ff TQ B w w' := by
  obtain ⟨i9, hi9, z0, z1, z2⟩ := info_parts infoRS
  have hlt := I.lt
  have hxn := I.fam.none_next
  obtain ⟨v, vs, h⟩ := h
  have c3 := h.box.at (j := 3) rfl
  have g3 := h.box.fz 3
  obtain ⟨k, hk⟩ := idx_of I.nw
  obtain ⟨s0, hs0⟩ := Option.ne_none_iff_exists'.1 I.nw
  have hks := at_of I.sq hk hs0
  obtain ⟨W1, hW1⟩ : ∃ W1, w.setCell ⟨r, 3, none⟩ (.int .i64 (m.next + 1)) = W1 := ⟨_, rfl⟩
  have HW1 : Hid (_ = W1) := hW1
  obtain ⟨r1, f1⟩ := h.nxt (m.next + 1)
  rw [hW1] at r1 f1
  have hd1 := hP f1 hd
  have y1 := r1.box.at (j := 1) rfl
  have y2 := r1.box.at (j := 2) rfl
  obtain ⟨g, cp, u0, rfl, hBg, hc1, hc2, _, _⟩ := h.cell hks
  obtain ⟨da, dn, dc, rfl⟩ : ∃ a n c, dv = .slice a n c := by obtain ⟨a, c, rfl, _⟩ := hd.form; exact ⟨a, _, c, rfl⟩
  have HC : Hid (∀ z, Kp W1 z → Calls Tryz.prog 111 #[.slice da dn dc] z fun e w' => ∃ v', e = .returned v' ∧ Dw 0 v' ds w' ∧ Kp W1 w') := fun z kz => (lent_any ok (hd1.kp ok kz) hf hN).mono (by rintro e w' ⟨v', rfl, q1, q2⟩; exact ⟨v', rfl, q1.zero, kp_trans kz q2⟩)
  have HR : Hid (Rb B C r (.slice (some ⟨g, 0, none⟩) m.L.length cp) vs { m with next := m.next + 1 } W1 ∧ Ff TQ B w W1 ∧ B ≤ W1.heap.size) := ⟨r1, f1, Nat.le_trans hB f1.size⟩
  have HI : Hid (Inv m ∧ (m.L.map St.seq)[k]? = some m.now ∧ look m.L m.next = none ∧ (m.L.length : Int) + 1 ≤ m.most ∧ m.L.length ≤ 240) := ⟨I, hk, hxn, hm, hl⟩
  obtain ⟨NL, hNL⟩ : ∃ n, m.L.length = n := ⟨_, rfl⟩
  have HNL : Hid (m.L.length = NL) := hNL
  have HADD : Hid (∀ w3 dv', Dw 0 dv' ds w3 → Kp W1 w3 →
      (w3.alloc (.cells #[.int .i64 m.next, .int .i64 m.now, dv', .int .i64 (-1)] 150)).ownsRow B 150 4 (.slice (some ⟨g, 0, none⟩) NL cp) NL (flatR m.L vs) ∧
      (∀ j u, ([.int .i64 m.next, .int .i64 m.now, dv', .int .i64 (-1)] : List Value)[j]? = some u → (w3.alloc (.cells #[.int .i64 m.next, .int .i64 m.now, dv', .int .i64 (-1)] 150)).cell? ((⟨w3.heap.size, 0, none⟩ : Addr).add j) = some u) ∧
      (∀ u ∈ ([.int .i64 m.next, .int .i64 m.now, dv', .int .i64 (-1)] : List Value), u.oneCell' = true) ∧
      B ≤ (w3.alloc (.cells #[.int .i64 m.next, .int .i64 m.now, dv', .int .i64 (-1)] 150)).heap.size ∧
      ∀ w5 v5, w5.ownsRow B 150 4 v5 (NL + 1) (flatR m.L vs ++ [.int .i64 m.next, .int .i64 m.now, dv', .int .i64 (-1)]) → (w3.alloc (.cells #[.int .i64 m.next, .int .i64 m.now, dv', .int .i64 (-1)] 150)).grownBy w5 (Value.slice (some ⟨g, 0, none⟩) NL cp).ownBlock →
        w5.cell? ⟨r, 1, none⟩ = some (.slice (some ⟨g, 0, none⟩) NL cp) ∧ w5.frozen? ⟨r, 1, none⟩ = false ∧ w5.cell? ⟨r, 2, none⟩ = some (.int .i64 m.now) ∧ (w5.setCell ⟨r, 1, none⟩ v5).cell? ⟨r, 2, none⟩ = some (.int .i64 m.now) ∧
        Hid (Rb B w5.heap.size r v5 (vs ++ [dv']) { m with next := m.next + 1, L := m.L ++ [⟨m.next, m.now, -1, ds⟩] } (w5.setCell ⟨r, 1, none⟩ v5) ∧ Ff TQ B w (w5.setCell ⟨r, 1, none⟩ v5))) := fun w3 dv' d3 k3 => by
    have k4 : Kp W1 (w3.alloc (.cells #[.int .i64 m.next, .int .i64 m.now, dv', .int .i64 (-1)] 150)) := kp_more k3 _
    have rb4 := HR.out.1.kp k4
    have row4 : World.ownsRow (w3.alloc (.cells #[.int .i64 m.next, .int .i64 m.now, dv', .int .i64 (-1)] 150)) B 150 4 (.slice (some ⟨g, 0, none⟩) m.L.length cp) m.L.length (flatR m.L vs) := rb4.row
    refine ⟨by rw [hNL] at row4; exact row4, fun j u hj => by rw [addr_add]; exact (Lc.new w3 [.int .i64 m.next, .int .i64 m.now, dv', .int .i64 (-1)] 150).at hj, fun u hu => ?_, Nat.le_trans HR.out.2.2 k4.size, fun w5 v5 x1 x2 => ?_⟩
    · obtain ⟨a, c, rfl, _⟩ := d3.form
      simp only [List.mem_cons, List.not_mem_nil, or_false] at hu
      rcases hu with rfl | rfl | rfl | rfl <;> rfl
    · rw [← hNL] at x1 x2
      have b5 := rb4.box.fr (fr_grown x2) fun e => row_ne rb4.row rb4.box (by decide) e.symm
      obtain ⟨q1, q2⟩ := rb4.add (s := ⟨m.next, m.now, -1, ds⟩) (d3.kp (okRow _ _) (kp_alloc _ _)) x1 x2
      rw [hNL] at b5
      exact ⟨b5.at (j := 1) rfl, b5.fz _, b5.at (j := 2) rfl, q1.box.at (j := 2) rfl, q1, (HR.out.2.1.trans (Ff.kp k4)).trans q2⟩
  rw [hNL] at y1 hc1 hl hm
  clear h r1 f1 hd hd1 hk hs0 hks hxn hW1 hf ok I hNL
  unfold maxLen at hc2
  go_enter Tryz.func70, Tryz.ntmps70
  go_upto_region 3 with fail
  rw [HW1.out]
  refine wp_region_noPanic ?_
  refine wp_region_held_drew (S := fun z => z.cell? ⟨r, 2, none⟩ = some (.int .i64 m.now)) (by kernel_rfl) (y2) (fun hHeld => ?_)
  refine takeAt 0 (some 17) ?_ rfl rfl (by kernel_rfl) (by kernel_rfl) (by kernel_rfl) (fun _ _ _ h => h) (Or.inl ⟨by rfl, ?_⟩) hHeld ?_
  rotate_left
  · intro w hSw
    go_simp <;> with_reducible rfl
  try simp only [Act.put, List.setIfInBounds_toArray, List.set_cons_zero, List.set_cons_succ]
  refine takeAt 1 (some 18) ?_ rfl rfl (by kernel_rfl) (by kernel_rfl) (by kernel_rfl) (fun _ _ _ h => h) (Or.inl ⟨by rfl, ?_⟩) hHeld ?_
  rotate_left
  · intro w hSw
    go_simp <;> with_reducible rfl
  try simp only [Act.put, List.setIfInBounds_toArray, List.set_cons_zero, List.set_cons_succ]
  refine takeAt 2 (some 19) ?_ rfl rfl (by kernel_rfl) (by kernel_rfl) (by kernel_rfl) (fun _ _ _ h => h) (Or.inl ⟨by rfl, ?_⟩) hHeld ?_
  rotate_left
  · intro w hSw
    go_simp <;> with_reducible rfl
  try simp only [Act.put, List.setIfInBounds_toArray, List.set_cons_zero, List.set_cons_succ]
  refine takeAt 3 (some 20) ?_ rfl rfl (by kernel_rfl) (by kernel_rfl) (by kernel_rfl) (fun _ _ _ h => h) (Or.inl ⟨by rfl, ?_⟩) hHeld ?_
  rotate_left
  · intro w hSw
    go_simp <;> with_reducible rfl
  try simp only [Act.put, List.setIfInBounds_toArray, List.set_cons_zero, List.set_cons_succ]
  refine takeAt 5 (some 22) ?_ rfl rfl (by kernel_rfl) (by kernel_rfl) (by kernel_rfl) (fun _ _ _ h => h) (Or.inl ⟨by rfl, ?_⟩) hHeld ?_
  rotate_left
  · intro w hSw
    go_simp <;> with_reducible rfl
  try simp only [Act.put, List.setIfInBounds_toArray, List.set_cons_zero, List.set_cons_succ]
  refine takeAt 6 (some 23) ?_ rfl rfl (by kernel_rfl) (by kernel_rfl) (by kernel_rfl) (fun _ _ _ h => h) (Or.inl ⟨by rfl, ?_⟩) hHeld ?_
  rotate_left
  · intro w hSw
    go_simp <;> with_reducible rfl
  try simp only [Act.put, List.setIfInBounds_toArray, List.set_cons_zero, List.set_cons_succ]
  refine takeAt 7 (some 24) ?_ rfl rfl (by kernel_rfl) (by kernel_rfl) (by kernel_rfl) (fun _ _ _ h => h) (Or.inl ⟨by rfl, ?_⟩) hHeld ?_
  rotate_left
  · intro w hSw
    go_simp <;> with_reducible rfl
  try simp only [Act.put, List.setIfInBounds_toArray, List.set_cons_zero, List.set_cons_succ]
  refine takeAt 8 (some 25) ?_ rfl rfl (by kernel_rfl) (by kernel_rfl) (by kernel_rfl) (fun _ _ _ h => h) (Or.inl ⟨by rfl, ?_⟩) hHeld ?_
  rotate_left
  · intro w hSw
    go_simp <;> with_reducible rfl
  try simp only [Act.put, List.setIfInBounds_toArray, List.set_cons_zero, List.set_cons_succ]
  refine takeAt 9 (some 26) ?_ rfl rfl (by kernel_rfl) (by kernel_rfl) (by kernel_rfl) (fun _ _ _ h => h) (Or.inl ⟨by rfl, ?_⟩) hHeld ?_
  rotate_left
  · intro w hSw
    go_simp <;> with_reducible rfl
  try simp only [Act.put, List.setIfInBounds_toArray, List.set_cons_zero, List.set_cons_succ]
  refine takeAt 10 (some 27) ?_ rfl rfl (by kernel_rfl) (by kernel_rfl) (by kernel_rfl) (fun _ _ _ h => h) (Or.inl ⟨by rfl, ?_⟩) hHeld ?_
  rotate_left
  · intro w hSw
    go_simp <;> with_reducible rfl
  try simp only [Act.put, List.setIfInBounds_toArray, List.set_cons_zero, List.set_cons_succ]
  refine wpAnyH_ready (rs := [4, 11]) (by kernel_rfl) (by simp) ?_
  refine AllReadyH.cons rfl (fun K hK => ?ca) (AllReadyH.cons rfl (fun K hK => ?cb) AllReadyH.nil)
  case' ca =>
    go_simp
    refine hK.out _ _ hHeld (fun hHeld => ?_)
    clear hK K
    try simp only [Act.put, List.setIfInBounds_toArray, List.set_cons_zero, List.set_cons_succ]
    refine callAt 11 28 111 (vals := #[.slice da dn dc]) (by kernel_rfl) rfl rfl rfl rfl (by simp [Act.eval]) Tryz.func111 (by kernel_rfl) (by kernel_rfl) ?_
    refine Calls.mono (HC.out _ (by first | exact Below.refl _ _ | exact kp_drew _)) ?_
    rintro e w3 ⟨lv, rfl, d3, k3⟩
    obtain ⟨lva, lvn, lvc, rfl⟩ : ∃ a n c, lv = .slice a n c := by obtain ⟨a, c, rfl, _⟩ := d3.form; exact ⟨a, _, c, rfl⟩
    have yl := kp_cell k3 y1
    have y22 := kp_cell k3 y2
    obtain ⟨n1, n2, n3, n4, n5⟩ := HADD.out w3 _ d3 k3
    have N1 : Hid _ := n1
    have N2 : Hid _ := n2
    have N3 : Hid _ := n3
    have N4 : Hid _ := n4
    have N5 : Hid _ := n5
    clear n1 n2 n3 n4 n5 d3 HADD HC
    refine ⟨_, rfl, y22, fun hHeld => ?_⟩
    try simp only [Act.put, List.setIfInBounds_toArray, List.set_cons_zero, List.set_cons_succ]
    refine takeAt 12 (some 29) ?_ rfl rfl (by kernel_rfl) (by kernel_rfl) (by kernel_rfl) (fun _ _ _ h => h) (Or.inl ⟨by rfl, ?_⟩) hHeld ?_
    rotate_left
    · intro w hSw
      go_simp <;> with_reducible rfl
    try simp only [Act.put, List.setIfInBounds_toArray, List.set_cons_zero, List.set_cons_succ]
    refine wpAnyH_ready (rs := [13]) (by kernel_rfl) (by simp) ?_
    refine AllReadyH.cons rfl (fun K hK => ?_) AllReadyH.nil
    go_simp
    refine hK.out _ _ (kp_cell (kp_alloc _ _) hHeld) (fun hHeld => ?_)
    clear hK K
    try simp only [Act.put, List.setIfInBounds_toArray, List.set_cons_zero, List.set_cons_succ]
    refine wpAnyH_ready (rs := [14]) (by kernel_rfl) (by simp) ?_
    refine AllReadyH.cons rfl (fun K1 hK => ?_) AllReadyH.nil
    refine step_append_lies _ rfl (.tmp 21) (.tmp 30) 151 rfl B 150 i9 _ 4 48 Tryz.underlying151 hi9 z0 z1 z2 rfl (by decide) (.slice (some ⟨g, 0, none⟩) NL cp) NL (flatR m.L vs) rfl N1.out ⟨w3.heap.size, 0, none⟩ 1 1 [.int .i64 m.next, .int .i64 m.now, .slice lva lvn lvc, .int .i64 (-1)] rfl rfl N2.out N3.out (by omega) (by unfold maxLen; omega) (by omega) N4.out (w3.heap.size + 1) (alloc_size _ _) ?_
    intro g5 cp5 w5 hown hgrow _ _
    obtain ⟨x1, x2, x3, x4, H5⟩ := N5.out w5 _ hown hgrow
    clear hown hgrow N1 N2 N3 N4 N5
    change K1 (Act.put _ (some 31) (.slice (some ⟨g5, 0, none⟩) (NL + 1) cp5)) w5
    refine hK.out _ _ x3 (fun hHeld => ?_)
    clear hK K1
    try simp only [Act.put, List.setIfInBounds_toArray, List.set_cons_zero, List.set_cons_succ]
    refine takeAt 15 (some 32) ?_ rfl rfl (by kernel_rfl) (by kernel_rfl) (by kernel_rfl) (fun _ _ _ h => h) (Or.inl ⟨by rfl, ?_⟩) hHeld ?_
    rotate_left
    · intro w hSw
      go_simp <;> with_reducible rfl
    try simp only [Act.put, List.setIfInBounds_toArray, List.set_cons_zero, List.set_cons_succ]
    refine takeAt 16 (some 33) ?_ rfl rfl (by kernel_rfl) (by kernel_rfl) (by kernel_rfl) (fun _ _ _ h => h) (Or.inl ⟨by rfl, ?_⟩) hHeld ?_
    rotate_left
    · intro w hSw
      go_simp <;> with_reducible rfl
    try simp only [Act.put, List.setIfInBounds_toArray, List.set_cons_zero, List.set_cons_succ]
    refine wpAnyH_ready (rs := [17]) (by kernel_rfl) (by simp) ?_
    refine AllReadyH.cons rfl (fun K hK => ?_) AllReadyH.nil
    go_simp
    refine hK.out _ _ (x4) (fun hHeld => ?_)
    clear hK K
    try simp only [Act.put, List.setIfInBounds_toArray, List.set_cons_zero, List.set_cons_succ]
    refine wpAnyH_done (by kernel_rfl) ?_ _
    refine NoPanic.normal ?_
  case' cb =>
    refine step_call 111 (vals := #[.slice da dn dc]) rfl rfl (by simp [Act.eval]) Tryz.func111 (by kernel_rfl) (by kernel_rfl) ?_
    refine Calls.mono (HC.out _ (by first | exact Below.refl _ _ | exact kp_drew _)) ?_
    rintro e w3 ⟨lv, rfl, d3, k3⟩
    obtain ⟨lva, lvn, lvc, rfl⟩ : ∃ a n c, lv = .slice a n c := by obtain ⟨a, c, rfl, _⟩ := d3.form; exact ⟨a, _, c, rfl⟩
    have yl := kp_cell k3 y1
    have y22 := kp_cell k3 y2
    obtain ⟨n1, n2, n3, n4, n5⟩ := HADD.out w3 _ d3 k3
    have N1 : Hid _ := n1
    have N2 : Hid _ := n2
    have N3 : Hid _ := n3
    have N4 : Hid _ := n4
    have N5 : Hid _ := n5
    clear n1 n2 n3 n4 n5 d3 HADD HC
    refine ⟨_, rfl, ?_⟩
    refine hK.out _ _ y22 (fun hHeld => ?_)
    clear hK K
    try simp only [Act.put, List.setIfInBounds_toArray, List.set_cons_zero, List.set_cons_succ]
    refine takeAt 12 (some 29) ?_ rfl rfl (by kernel_rfl) (by kernel_rfl) (by kernel_rfl) (fun _ _ _ h => h) (Or.inl ⟨by rfl, ?_⟩) hHeld ?_
    rotate_left
    · intro w hSw
      go_simp <;> with_reducible rfl
    try simp only [Act.put, List.setIfInBounds_toArray, List.set_cons_zero, List.set_cons_succ]
    refine wpAnyH_ready (rs := [4, 13]) (by kernel_rfl) (by simp) ?_
    refine AllReadyH.cons rfl (fun K hK => ?cc) (AllReadyH.cons rfl (fun K hK => ?cd) AllReadyH.nil)
    case' cc =>
      go_simp
      refine hK.out _ _ hHeld (fun hHeld => ?_)
      clear hK K
      try simp only [Act.put, List.setIfInBounds_toArray, List.set_cons_zero, List.set_cons_succ]
      refine wpAnyH_ready (rs := [13]) (by kernel_rfl) (by simp) ?_
      refine AllReadyH.cons rfl (fun K hK => ?_) AllReadyH.nil
      go_simp
      refine hK.out _ _ (kp_cell (kp_alloc _ _) hHeld) (fun hHeld => ?_)
      clear hK K
      try simp only [Act.put, List.setIfInBounds_toArray, List.set_cons_zero, List.set_cons_succ]
      refine wpAnyH_ready (rs := [14]) (by kernel_rfl) (by simp) ?_
      refine AllReadyH.cons rfl (fun K1 hK => ?_) AllReadyH.nil
      refine step_append_lies _ rfl (.tmp 21) (.tmp 30) 151 rfl B 150 i9 _ 4 48 Tryz.underlying151 hi9 z0 z1 z2 rfl (by decide) (.slice (some ⟨g, 0, none⟩) NL cp) NL (flatR m.L vs) rfl N1.out ⟨w3.heap.size, 0, none⟩ 1 1 [.int .i64 m.next, .int .i64 m.now, .slice lva lvn lvc, .int .i64 (-1)] rfl rfl N2.out N3.out (by omega) (by unfold maxLen; omega) (by omega) N4.out (w3.heap.size + 1) (alloc_size _ _) ?_
      intro g5 cp5 w5 hown hgrow _ _
      obtain ⟨x1, x2, x3, x4, H5⟩ := N5.out w5 _ hown hgrow
      clear hown hgrow N1 N2 N3 N4 N5
      change K1 (Act.put _ (some 31) (.slice (some ⟨g5, 0, none⟩) (NL + 1) cp5)) w5
      refine hK.out _ _ x3 (fun hHeld => ?_)
      clear hK K1
      try simp only [Act.put, List.setIfInBounds_toArray, List.set_cons_zero, List.set_cons_succ]
      refine takeAt 15 (some 32) ?_ rfl rfl (by kernel_rfl) (by kernel_rfl) (by kernel_rfl) (fun _ _ _ h => h) (Or.inl ⟨by rfl, ?_⟩) hHeld ?_
      rotate_left
      · intro w hSw
        go_simp <;> with_reducible rfl
      try simp only [Act.put, List.setIfInBounds_toArray, List.set_cons_zero, List.set_cons_succ]
      refine takeAt 16 (some 33) ?_ rfl rfl (by kernel_rfl) (by kernel_rfl) (by kernel_rfl) (fun _ _ _ h => h) (Or.inl ⟨by rfl, ?_⟩) hHeld ?_
      rotate_left
      · intro w hSw
        go_simp <;> with_reducible rfl
      try simp only [Act.put, List.setIfInBounds_toArray, List.set_cons_zero, List.set_cons_succ]
      refine wpAnyH_ready (rs := [17]) (by kernel_rfl) (by simp) ?_
      refine AllReadyH.cons rfl (fun K hK => ?_) AllReadyH.nil
      go_simp
      refine hK.out _ _ (x4) (fun hHeld => ?_)
      clear hK K
      try simp only [Act.put, List.setIfInBounds_toArray, List.set_cons_zero, List.set_cons_succ]
      refine wpAnyH_done (by kernel_rfl) ?_ _
      refine NoPanic.normal ?_
    case' cd =>
      go_simp
      refine hK.out _ _ (kp_cell (kp_alloc _ _) hHeld) (fun hHeld => ?_)
      clear hK K
      try simp only [Act.put, List.setIfInBounds_toArray, List.set_cons_zero, List.set_cons_succ]
      have yl2 := kp_cell (kp_alloc w3 (.cells #[.int .i64 m.next, .int .i64 m.now, .slice lva lvn lvc, .int .i64 (-1)] 150)) yl
      refine wpAnyH_ready (rs := [4]) (by kernel_rfl) (by simp) ?_
      refine AllReadyH.cons rfl (fun K hK => ?_) AllReadyH.nil
      go_simp
      refine hK.out _ _ (hHeld) (fun hHeld => ?_)
      clear hK K
      try simp only [Act.put, List.setIfInBounds_toArray, List.set_cons_zero, List.set_cons_succ]
      refine wpAnyH_ready (rs := [14]) (by kernel_rfl) (by simp) ?_
      refine AllReadyH.cons rfl (fun K1 hK => ?_) AllReadyH.nil
      refine step_append_lies _ rfl (.tmp 21) (.tmp 30) 151 rfl B 150 i9 _ 4 48 Tryz.underlying151 hi9 z0 z1 z2 rfl (by decide) (.slice (some ⟨g, 0, none⟩) NL cp) NL (flatR m.L vs) rfl N1.out ⟨w3.heap.size, 0, none⟩ 1 1 [.int .i64 m.next, .int .i64 m.now, .slice lva lvn lvc, .int .i64 (-1)] rfl rfl N2.out N3.out (by omega) (by unfold maxLen; omega) (by omega) N4.out (w3.heap.size + 1) (alloc_size _ _) ?_
      intro g5 cp5 w5 hown hgrow _ _
      obtain ⟨x1, x2, x3, x4, H5⟩ := N5.out w5 _ hown hgrow
      clear hown hgrow N1 N2 N3 N4 N5
      change K1 (Act.put _ (some 31) (.slice (some ⟨g5, 0, none⟩) (NL + 1) cp5)) w5
      refine hK.out _ _ x3 (fun hHeld => ?_)
      clear hK K1
      try simp only [Act.put, List.setIfInBounds_toArray, List.set_cons_zero, List.set_cons_succ]
      refine takeAt 15 (some 32) ?_ rfl rfl (by kernel_rfl) (by kernel_rfl) (by kernel_rfl) (fun _ _ _ h => h) (Or.inl ⟨by rfl, ?_⟩) hHeld ?_
      rotate_left
      · intro w hSw
        go_simp <;> with_reducible rfl
      try simp only [Act.put, List.setIfInBounds_toArray, List.set_cons_zero, List.set_cons_succ]
      refine takeAt 16 (some 33) ?_ rfl rfl (by kernel_rfl) (by kernel_rfl) (by kernel_rfl) (fun _ _ _ h => h) (Or.inl ⟨by rfl, ?_⟩) hHeld ?_
      rotate_left
      · intro w hSw
        go_simp <;> with_reducible rfl
      try simp only [Act.put, List.setIfInBounds_toArray, List.set_cons_zero, List.set_cons_succ]
      refine wpAnyH_ready (rs := [17]) (by kernel_rfl) (by simp) ?_
      refine AllReadyH.cons rfl (fun K hK => ?_) AllReadyH.nil
      go_simp
      refine hK.out _ _ (x4) (fun hHeld => ?_)
      clear hK K
      try simp only [Act.put, List.setIfInBounds_toArray, List.set_cons_zero, List.set_cons_succ]
      refine wpAnyH_done (by kernel_rfl) ?_ _
      refine NoPanic.normal ?_
  all_goals
    go_upto_region 4 with fail
    generalize hW6 : w5.setCell ⟨r, 1, none⟩ (.slice (some ⟨g5, 0, none⟩) (NL + 1) cp5) = W6 at H5 ⊢
    clear hW6 y1 y2 c3 g3 x1 x2 x3 x4 yl y22 k3
    obtain ⟨q6, f6⟩ := H5.out
    have hl6 : (m.L ++ [(⟨m.next, m.now, -1, ds⟩ : St)]).length = NL + 1 := by rw [List.length_append, HNL.out]; rfl
    have hnd6 := nd_snoc HI.out.1 ds
    have hk6 : ((m.L ++ [(⟨m.next, m.now, -1, ds⟩ : St)]).map St.seq)[k]? = some m.now := by
      rw [List.map_append, List.getElem?_append_left (List.getElem?_eq_some_iff.1 HI.out.2.1).1]; exact HI.out.2.1
    have hkN : k < NL := by have := (List.getElem?_eq_some_iff.1 HI.out.2.1).1; rw [List.length_map, HNL.out] at this; exact this
    have HF : Hid (∀ z, Kp W6 z → Calls Tryz.prog 112 #[.pointer (some ⟨r, 0, none⟩), .int .i64 m.now] z fun e w' => e = .returned (.int .i64 k) ∧ w' = z) := fun z kz => find_some (m := { m with next := m.next + 1, L := m.L ++ [⟨m.next, m.now, -1, ds⟩] }) ⟨_, _, q6.kp kz⟩ (by show (m.L ++ [_]).length ≤ 250; rw [hl6]; have := HI.out.2.2.2.2; have := HNL.out; omega) hnd6 hk6
    have y1 := q6.box.at (j := 1) rfl
    have y2 : W6.cell? ⟨r, 2, none⟩ = some (.int .i64 m.now) := q6.box.at (j := 2) rfl
    obtain ⟨s6, hs6⟩ : ∃ s, (m.L ++ [(⟨m.next, m.now, -1, ds⟩ : St)])[k]? = some s := ⟨_, List.getElem?_eq_getElem (by rw [hl6]; omega)⟩
    obtain ⟨g6, c6, u6, e6, _, hcc1, hcc2, _, _, _, _, y3, fz6⟩ := q6.cell hs6
    simp only [Value.slice.injEq, Option.some.injEq, Addr.mk.injEq, and_true, true_and] at e6
    obtain ⟨e7, e9, e8⟩ := e6
    clear e9
    rw [← e7] at y3 fz6
    rw [← e8] at hcc1 hcc2
    have y4 := fz6 (k * 4 + 3)
    obtain ⟨t6, ff6⟩ := q6.onN (n := NL + 1) (by show _ = (m.L ++ [_]).length; rw [hl6]) hnd6 hk6 m.next
    obtain ⟨W7, hW7⟩ : ∃ W7, (W6.setCell ⟨g5, k * 4 + 3, none⟩ (.int .i64 m.next)).drew = W7 := ⟨_, rfl⟩
    have HW7 : Hid (_ = W7) := hW7
    have t7 := t6.kp (kp_drew _)
    rw [hW7] at t7
    have f7 : Ff TQ B w W7 := by rw [← hW7]; exact (f6.trans ff6).trans (Ff.kp (kp_drew _))
    have y7 := t7.box.at (j := 1) rfl
    have y8 : W7.cell? ⟨r, 2, none⟩ = some (.int .i64 m.now) := t7.box.at (j := 2) rfl
    have y9 := t7.box.fz 2
    obtain ⟨t8, f8⟩ := t7.now m.next
    obtain ⟨W8, hW8⟩ : ∃ W8, W7.setCell ⟨r, 2, none⟩ (.int .i64 m.next) = W8 := ⟨_, rfl⟩
    have HW8 : Hid (_ = W8) := hW8
    rw [hW8] at t8 f8
    have x1 := t8.box.at (j := 1) rfl
    have x0 : W8.cell? ⟨r, 0, none⟩ = some (.int .i64 m.most) := t8.box.at (j := 0) rfl
    have H8 : Hid (Rw B W8.heap.size r (addT m ds) W8 ∧ Ff TQ B w W8) := by
      have e := on_snoc (L := m.L) (x := m.now) (y := m.next) (by have := HI.out.1.lt; omega) m.now (-1) ds m.next
      have t9 := t8
      rw [e] at t9
      have t10 : Rw B _ r (addT m ds) W8 := ⟨_, _, t9⟩
      exact ⟨t10.sized, f7.trans f8⟩
    have d1 : decide (((NL + 1 : Nat) : Int) > m.most) = false := decide_eq_false (by have := HI.out.2.2.2.1; have := HNL.out; omega)
    have d2 : decide (m.most < ((NL + 1 : Nat) : Int)) = false := decide_eq_false (by have := HI.out.2.2.2.1; have := HNL.out; omega)
    have hkN1 : k < NL + 1 := by omega
    have hkI : (k : Int) < (NL : Int) + 1 := by omega
    unfold maxLen at hcc2
    rw [show ({ m with next := m.next + 1, L := m.L ++ [⟨m.next, m.now, -1, ds⟩] } : Tr).L.length = NL + 1 from hl6] at hcc1
    clear q6 f6 t6 ff6 t7 f7 t8 f8 hW7 hW8 hnd6 hk6 hs6 e7 e8 fz6 H5 HI HR hl6
    refine wp_region_noPanic ?_
    refine wp_region_held_drew (S := fun z => z.cell? ⟨r, 1, none⟩ = some (.slice (some ⟨g5, 0, none⟩) (NL + 1) cp5) ∧ z.cell? ⟨r, 2, none⟩ = some (.int .i64 m.now)) (by kernel_rfl) (⟨y1, y2⟩) (fun hHeld => ?_)
    refine takeAt 0 (some 34) ?_ rfl rfl (by kernel_rfl) (by kernel_rfl) (by kernel_rfl) (fun _ _ _ h => h) (Or.inl ⟨by rfl, ?_⟩) hHeld ?_
    rotate_left
    · intro w hSw
      go_simp <;> with_reducible rfl
    try simp only [Act.put, List.setIfInBounds_toArray, List.set_cons_zero, List.set_cons_succ]
    refine takeAt 1 (some 35) ?_ rfl rfl (by kernel_rfl) (by kernel_rfl) (by kernel_rfl) (fun _ _ _ h => h) (Or.inl ⟨by rfl, ?_⟩) hHeld ?_
    rotate_left
    · intro w hSw
      go_simp <;> with_reducible rfl
    try simp only [Act.put, List.setIfInBounds_toArray, List.set_cons_zero, List.set_cons_succ]
    refine takeAt 2 (some 36) ?_ rfl rfl (by kernel_rfl) (by kernel_rfl) (by kernel_rfl) (fun _ _ _ h => h) (Or.inl ⟨by rfl, ?_⟩) hHeld ?_
    rotate_left
    · intro w hSw
      go_simp <;> with_reducible rfl
    try simp only [Act.put, List.setIfInBounds_toArray, List.set_cons_zero, List.set_cons_succ]
    refine takeAt 3 (some 37) ?_ rfl rfl (by kernel_rfl) (by kernel_rfl) (by kernel_rfl) (fun _ _ _ h => h) (Or.inl ⟨by rfl, ?_⟩) hHeld ?_
    rotate_left
    · intro w hSw
      go_simp <;> with_reducible rfl
    try simp only [Act.put, List.setIfInBounds_toArray, List.set_cons_zero, List.set_cons_succ]
    refine takeAt 4 (some 38) ?_ rfl rfl (by kernel_rfl) (by kernel_rfl) (by kernel_rfl) (fun _ _ _ h => h) (Or.inl ⟨by rfl, ?_⟩) hHeld ?_
    rotate_left
    · intro w hSw
      go_simp <;> with_reducible rfl
    try simp only [Act.put, List.setIfInBounds_toArray, List.set_cons_zero, List.set_cons_succ]
    refine takeAt 5 (some 39) ?_ rfl rfl (by kernel_rfl) (by kernel_rfl) (by kernel_rfl) (fun _ _ _ h => h) (Or.inl ⟨by rfl, ?_⟩) hHeld ?_
    rotate_left
    · intro w hSw
      go_simp <;> with_reducible rfl
    try simp only [Act.put, List.setIfInBounds_toArray, List.set_cons_zero, List.set_cons_succ]
    refine takeAt 6 (some 40) ?_ rfl rfl (by kernel_rfl) (by kernel_rfl) (by kernel_rfl) (fun _ _ _ h => h) (Or.inl ⟨by rfl, ?_⟩) hHeld ?_
    rotate_left
    · intro w hSw
      go_simp <;> with_reducible rfl
    try simp only [Act.put, List.setIfInBounds_toArray, List.set_cons_zero, List.set_cons_succ]
    refine takeAt 7 (some 41) ?_ rfl rfl (by kernel_rfl) (by kernel_rfl) (by kernel_rfl) (fun _ _ _ h => h) (Or.inl ⟨by rfl, ?_⟩) hHeld ?_
    rotate_left
    · intro w hSw
      go_simp <;> with_reducible rfl
    try simp only [Act.put, List.setIfInBounds_toArray, List.set_cons_zero, List.set_cons_succ]
    refine takeAt 8 (some 42) ?_ rfl rfl (by kernel_rfl) (by kernel_rfl) (by kernel_rfl) (fun _ _ _ h => h) (Or.inl ⟨by rfl, ?_⟩) hHeld ?_
    rotate_left
    · intro w hSw
      go_simp <;> with_reducible rfl
    try simp only [Act.put, List.setIfInBounds_toArray, List.set_cons_zero, List.set_cons_succ]
    refine takeAt 10 (some 44) ?_ rfl rfl (by kernel_rfl) (by kernel_rfl) (by kernel_rfl) (fun _ _ _ h => h) (Or.inl ⟨by rfl, ?_⟩) hHeld ?_
    rotate_left
    · intro w hSw
      go_simp <;> with_reducible rfl
    try simp only [Act.put, List.setIfInBounds_toArray, List.set_cons_zero, List.set_cons_succ]
    refine callAt 9 43 112 (vals := #[.pointer (some ⟨r, 0, none⟩), .int .i64 m.now]) (by kernel_rfl) rfl rfl rfl rfl (by simp [Act.eval]) Tryz.func112 (by kernel_rfl) (by kernel_rfl) ?_
    refine Calls.mono (HF.out _ (by first | exact Below.refl _ _ | exact kp_drew _)) ?_
    rintro e w7 ⟨rfl, rfl⟩
    refine ⟨_, rfl, hHeld, fun hHeld => ?_⟩
    try simp only [Act.put, List.setIfInBounds_toArray, List.set_cons_zero, List.set_cons_succ]
    refine takeAt 11 (some 45) ?_ rfl rfl (by kernel_rfl) (by kernel_rfl) (by kernel_rfl) (fun _ _ _ h => h) (Or.inl ⟨by rfl, ?_⟩) hHeld ?_
    rotate_left
    · intro w hSw
      go_simp <;> with_reducible rfl
    try simp only [Act.put, List.setIfInBounds_toArray, List.set_cons_zero, List.set_cons_succ]
    refine takeAt 12 (some 46) ?_ rfl rfl (by kernel_rfl) (by kernel_rfl) (by kernel_rfl) (fun _ _ _ h => h) (Or.inl ⟨by rfl, ?_⟩) hHeld ?_
    rotate_left
    · intro w hSw
      go_simp <;> with_reducible rfl
    try simp only [Act.put, List.setIfInBounds_toArray, List.set_cons_zero, List.set_cons_succ]
    refine wpAnyH_ready (rs := [13]) (by kernel_rfl) (by simp) ?_
    refine AllReadyH.cons rfl (fun K hK => ?_) AllReadyH.nil
    go_simp
    refine hK.out _ _ (by rw [HW7.out]; exact ⟨y7, y8⟩) (fun hHeld => ?_)
    clear hK K
    try simp only [Act.put, List.setIfInBounds_toArray, List.set_cons_zero, List.set_cons_succ]
    refine wpAnyH_done (by kernel_rfl) ?_ _
    refine NoPanic.normal ?_
    rw [HW7.out]
    go_upto_region 6 with fail
    rw [HW8.out]
    go_loopw [] (fun wr => wr = W8) (fun _ => 0)
    case atStart => rfl
    case round =>
      subst hrel
      go_wp2_with fail
      go_quiet (fail)
      go_wp2_with fail
      go_ret
      exact ⟨rfl, (Rw.kp H8.out.1 (kp_drewN _ _)).sized, H8.out.2.trans (Ff.kp (kp_drewN _ _))⟩
end
end Go.Proofs.YtaefeakmlgjonaaGreat
/- goBehind, Earlier, Later. -/
namespace Go.Proofs.YtaefeakmlgjonaaGreat
open Go.ChangeShapes Go.WideShapes Go.ChangeAt Go.RowKit Go.Maps Go.MapKept Go.Shelf
set_option linter.unusedVariables false
set_option linter.unusedSimpArgs false
set_option maxRecDepth 100000
theorem Went.kp {Q : Nat → Prop} {B C t : Nat} {w w1 w' : World} {v : Value} {m : Tr} {seq : Int} (h : Went Q B C t w1 v m seq w') (k : Kp w w1) : Went Q B C t w v m seq w' := by
  obtain ⟨top, l1, l2, hm, d, q, f⟩ := h
  exact ⟨top, l1, l2, hm, d.lower k.size k.size, q, (Ff.kp k).trans f⟩
theorem Ir.cell {B g N cap : Nat} {ss : List Int} {w : World} (h : Ir B (.slice (some ⟨g, 0, none⟩) N cap) ss w) (hN : N = ss.length) {i : Nat} {x : Int} (hi : ss[i]? = some x) : w.cell? ⟨g, i, none⟩ = some (.int .i64 x) := by
  subst hN
  have q := (List.getElem?_eq_some_iff.1 hi).1
  have := World.ownsRow.cellAt h i (by omega)
  rw [this]
  simp [zcs, hi]
theorem idx_eq {ss : List Int} (hn : ss.Nodup) {k : Nat} {x : Int} (hk : ss[k]? = some x) : Lib.idxOf (ss.take ss.length) x = (k : Int) := by
  obtain ⟨h1, h2⟩ := List.getElem?_eq_some_iff.1 hk
  refine Lib.idxOf_hit ss ss.length k x h1 (Nat.le_refl _) (by simp [List.getD, hk]) fun j hj => ?_
  have hjl : j < ss.length := by omega
  have := (List.pairwise_iff_getElem.1 hn) j k hjl h1 hj
  simp only [List.getD, List.getElem?_eq_getElem hjl, Option.getD_some]
  rw [← h2]; exact this
section
variable {Q : Nat → Prop} {B C D t g N cap k : Nat} {m : Tr} {w : World} {ss : List Int} {n : Int}
theorem index_any (ha : Ir D (.slice (some ⟨g, 0, none⟩) N cap) ss w) (hN : N = ss.length) (hnd : ss.Nodup) {x : Int} (hk : ss[k]? = some x) :
    Calls Tryz.prog 184 #[.slice (some ⟨g, 0, none⟩) N cap, .int .i64 x] w fun e w' => e = .returned (.int .i64 k) ∧ w' = w := by
  have hl : N ≤ 9223372036854775807 := by
    obtain ⟨a, c, e, h1, h2⟩ := ha.form
    cases e
    unfold maxLen at h2; omega
  have := Any.slices_Index_int Tryz.lays108 g 0 N cap ss x w (by omega) hl (fun j hj => by
    rw [Nat.zero_add]
    have := ha.cell hN (i := j) (x := ss.getD j 0) (by simp [List.getD, List.getElem?_eq_getElem hj])
    exact this)
  rw [hN, idx_eq hnd hk] at this
  rw [hN]
  exact this
set_option maxHeartbeats 4000000 in
theorem behind_arg (h : Tw Q B C t m w) (ha : Ir D (.slice (some ⟨g, 0, none⟩) N cap) ss w) (hN : N = ss.length) (hnd : ss.Nodup) (hk : ss[k]? = some m.now) (hn1 : n < 1) :
    Calls Tryz.prog 162 #[.pointer (some ⟨t, 0, none⟩), .slice (some ⟨g, 0, none⟩) N cap, .int .i64 n] w fun e w' => e = .returned (.tuple #[.slice none 0 0, .int .u16 1]) ∧ w' = w := by
  obtain ⟨b, q, h⟩ := h
  have c1 := h.box.at (j := 1) rfl
  have HI : Hid _ := index_any ha hN hnd hk
  have hkN : k < N := by have := (List.getElem?_eq_some_iff.1 hk).1; omega
  have hc : N ≤ cap ∧ cap ≤ 9223372036854775807 := by
    obtain ⟨_, _, e, hc1, hc2⟩ := ha.form
    cases e; unfold maxLen at hc2; omega
  have hc1 := hc.1
  have hc2 := hc.2
  have d1 : decide (n < 1) = true := decide_eq_true hn1
  have d2 : ((k : Int) + 1).toNat = k + 1 := by omega
  clear h ha hnd hk hN
  go_enter Tryz.func162, Tryz.ntmps162
  go_wp2_with fail
  refine Calls.mono HI.out ?_
  rintro e w1 ⟨rfl, rfl⟩
  clear HI
  go_wp2_with fail
  all_goals (go_ret2; exact ⟨rfl, rfl⟩)
set_option maxHeartbeats 4000000 in
theorem behind_end (h : Tw Q B C t m w) (ha : Ir D (.slice (some ⟨g, 0, none⟩) N cap) ss w) (hN : N = ss.length) (hnd : ss.Nodup) (hk : ss[k]? = some m.now) (hn1 : 1 ≤ n) (hkN : k + 1 = N) :
    Calls Tryz.prog 162 #[.pointer (some ⟨t, 0, none⟩), .slice (some ⟨g, 0, none⟩) N cap, .int .i64 n] w fun e w' => e = .returned (.tuple #[.slice none 0 0, .int .u16 121]) ∧ w' = w := by
  obtain ⟨b, q, h⟩ := h
  have c1 := h.box.at (j := 1) rfl
  have HI : Hid _ := index_any ha hN hnd hk
  have hc : N ≤ cap ∧ cap ≤ 9223372036854775807 := by
    obtain ⟨_, _, e, hc1, hc2⟩ := ha.form
    cases e; unfold maxLen at hc2; omega
  have hc1 := hc.1
  have hc2 := hc.2
  have d1 : decide (n < 1) = false := decide_eq_false (by omega)
  have d2 : ((k : Int) + 1).toNat = k + 1 := by omega
  have d3 : N - (k + 1) = 0 := by omega
  have hkN2 : k < N := by omega
  clear h ha hnd hk hN hkN
  go_enter Tryz.func162, Tryz.ntmps162
  go_wp2_with fail
  refine Calls.mono HI.out ?_
  rintro e w1 ⟨rfl, rfl⟩
  clear HI
  go_wp2_with fail
  all_goals (go_ret2; exact ⟨rfl, rfl⟩)
set_option maxHeartbeats 8000000 in
theorem behind_go (h : Tw Q B C t m w) (hC : C ≤ w.heap.size) (I : Inv m) (hnx : m.next ≤ 10000) (ha : Ir D (.slice (some ⟨g, 0, none⟩) N cap) ss w) (hN : N = ss.length) (hnd : ss.Nodup) (hk : ss[k]? = some m.now) (hn1 : 1 ≤ n) {j : Nat} (hj : min n ((N - (k + 1) : Nat) : Int) = (j : Int) + 1) {seq : Int} (hs : ss[k + 1 + j]? = some seq) (hl : look m.L seq ≠ none) :
    Calls Tryz.prog 162 #[.pointer (some ⟨t, 0, none⟩), .slice (some ⟨g, 0, none⟩) N cap, .int .i64 n] w fun e w' => ∃ v, e = .returned (.tuple #[v, .int .u16 0]) ∧ Went Q B C t w v m seq w' := by
  have HG : Hid _ := go_any h hC I.fam hnx I.nw hl
  obtain ⟨b, q, h⟩ := h
  have c1 := h.box.at (j := 1) rfl
  have HI : Hid _ := index_any ha hN hnd hk
  have c2 := ha.cell hN hs
  have hkj : k + 1 + j < N := by have := (List.getElem?_eq_some_iff.1 hs).1; omega
  have hc : N ≤ cap ∧ cap ≤ 9223372036854775807 := by
    obtain ⟨_, _, e, hc1, hc2⟩ := ha.form
    cases e; unfold maxLen at hc2; omega
  have hc1 := hc.1
  have hc2 := hc.2
  have d1 : decide (n < 1) = false := decide_eq_false (by omega)
  have d2 : ((k : Int) + 1).toNat = k + 1 := by omega
  have hkN2 : k < N := by omega
  have hne : ¬ cap = k + 1 := by omega
  have d4 : (((N - (k + 1) : Nat) : Int) == 0) = false := by simp; omega
  have d5 : (N - (k + 1) == 0) = false := by simp; omega
  have hjn : j < N - (k + 1) := by omega
  have d6 : ((j : Int) + 1 - 1) = (j : Int) := by omega
  clear h ha hnd hk hN hs hl
  go_enter Tryz.func162, Tryz.ntmps162
  go_wp2_with fail
  refine Calls.mono HI.out ?_
  rintro e w1 ⟨rfl, rfl⟩
  clear HI
  go_wp2_with fail
  refine Calls.mono HG.out ?_
  rintro e w2 ⟨v2, rfl, q2⟩
  have H2 : Hid _ := q2
  clear HG q2
  go_wp2_with fail
  go_ret2
  exact ⟨_, rfl, H2.out⟩
theorem seqs_nd (I : Inv m) : (m.L.map St.seq).Nodup := I.nodup
theorem Ir.some {v : Value} (h : Ir D v ss w) (hne : ss ≠ []) : ∃ g c, v = .slice (some ⟨g, 0, none⟩) ss.length c ∧ D ≤ g := by
  rcases h.2 with ⟨_, e0⟩ | ⟨g, c, cur, e, hb, _⟩
  · exact absurd (List.eq_nil_of_length_eq_zero e0) hne
  · exact ⟨g, c, e, hb⟩
theorem look_there {L : List St} (hs : (L.map St.seq).Pairwise (· < ·)) {i : Nat} {x : Int} (h : (L.map St.seq)[i]? = some x) : look L x ≠ none := look_ne.2 (List.mem_of_getElem? h)
/-- What Later and Earlier come to: nothing, or a way to a state. -/
def Led (Q : Nat → Prop) (B C t : Nat) (w : World) (m : Tr) (err : Int) (seq : Int) (v : Value) (w' : World) : Prop :=
  (err ≠ 0 ∧ v = .slice none 0 0 ∧ Kp w w') ∨ (err = 0 ∧ Went Q B C t w v m seq w')
set_option maxHeartbeats 4000000 in
theorem later_any (h : Tw Q B C t m w) (hC : C ≤ w.heap.size) (I : Inv m) (hnx : m.next ≤ 10000) (hl : m.L.length ≤ 250) (hk : (m.L.map St.seq)[k]? = some m.now) {err seq : Int}
    (hc : (n < 1 ∧ err = 1) ∨ (1 ≤ n ∧ k + 1 = m.L.length ∧ err = 121) ∨ (1 ≤ n ∧ err = 0 ∧ ∃ j : Nat, min n ((m.L.length - (k + 1) : Nat) : Int) = (j : Int) + 1 ∧ (m.L.map St.seq)[k + 1 + j]? = some seq)) :
    Calls Tryz.prog 141 #[.pointer (some ⟨t, 0, none⟩), .int .i64 n] w fun e w' => ∃ v, e = .returned (.tuple #[v, .int .u16 err]) ∧ Led Q B C t w m err seq v w' := by
  have HN : Hid _ := numbers_any h hl I.sq
  have hkl := (List.getElem?_eq_some_iff.1 hk).1
  have HC : Hid (∀ g c w1, Ir w.heap.size (.slice (some ⟨g, 0, none⟩) m.L.length c) (m.L.map St.seq) w1 → Kp w w1 → Calls Tryz.prog 162 #[.pointer (some ⟨t, 0, none⟩), .slice (some ⟨g, 0, none⟩) m.L.length c, .int .i64 n] w1 fun e w' => ∃ v, e = .returned (.tuple #[v, .int .u16 err]) ∧ Led Q B C t w m err seq v w') := fun g c w1 q1 k1 => by
    have eN : m.L.length = (m.L.map St.seq).length := by simp
    rcases hc with ⟨h1, rfl⟩ | ⟨h1, h2, rfl⟩ | ⟨h1, rfl, j, h2, h3⟩
    · refine (behind_arg (h.kp k1) q1 eN I.nodup hk h1).mono ?_
      rintro e w' ⟨rfl, rfl⟩
      exact ⟨_, rfl, .inl ⟨by decide, rfl, k1⟩⟩
    · refine (behind_end (h.kp k1) q1 eN I.nodup hk h1 h2).mono ?_
      rintro e w' ⟨rfl, rfl⟩
      exact ⟨_, rfl, .inl ⟨by decide, rfl, k1⟩⟩
    · refine (behind_go (h.kp k1) (Nat.le_trans hC k1.size) I hnx q1 eN I.nodup hk h1 h2 h3 (look_there I.sq h3)).mono ?_
      rintro e w' ⟨v, rfl, q⟩
      exact ⟨_, rfl, .inr ⟨rfl, q.kp k1⟩⟩
  have HL : Hid (m.L.map St.seq ≠ [] ∧ (m.L.map St.seq).length = m.L.length) := ⟨fun e => by rw [e] at hkl; simp at hkl, by simp⟩
  clear h I hk hc hkl
  go_enter Tryz.func141, Tryz.ntmps141
  go_wp2_with fail
  refine Calls.mono HN.out ?_
  rintro e w1 ⟨v, rfl, q1, k1⟩
  obtain ⟨g, c, rfl, _⟩ := q1.some HL.out.1
  rw [HL.out.2] at q1 ⊢
  have HB : Hid _ := HC.out g c w1 q1 k1
  generalize m.L.length = N at HB ⊢
  clear HN HC q1 k1
  go_wp2_with fail
  refine Calls.mono HB.out ?_
  rintro e w2 ⟨v2, rfl, q2⟩
  have H2 : Hid _ := q2
  clear HB q2
  go_wp2_with fail
  go_ret2
  exact ⟨_, rfl, H2.out⟩
theorem revI_some {ss : List Int} {w : World} {g cap : Nat} (h : Ir D (.slice (some ⟨g, 0, none⟩) ss.length cap) ss w) :
    Calls Tryz.prog 161 #[.slice (some ⟨g, 0, none⟩) ss.length cap] w fun e w' => e = .returned (.tuple #[]) ∧ Ir D (.slice (some ⟨g, 0, none⟩) ss.length cap) ss.reverse w' ∧ Fr (On g) w w' := by
  rcases h.2 with ⟨z, _⟩ | ⟨g', cap', cur, z, hb, hg, h1, h2, h3, h4⟩
  · cases z
  cases z
  refine (Any.slices_Reverse_int Tryz.lays112 g 0 cap ss w (holds_of_blockI hg (zcs_cells h4)) (by unfold maxLen at h2; omega)).mono ?_
  rintro e w' ⟨rfl, n, rfl⟩
  have hl2 : ss.reverse.length = ss.length := List.length_reverse
  have q := ownsRow_sortedI (n := n) (os := #[]) (base := D) hl2 hb hg h1 h2 h3
  have f := grownBy_sortedI (w := w) (g := g) (n := n) (os := #[]) ss.reverse.toArray
  have eg : ∀ W : World, Go.Sort.grow W #[] = W := fun W => by simp [Go.Sort.grow]
  rw [eg] at q f
  refine ⟨rfl, ?_, (fr_grown f).mono fun k _ e => by cases e; rfl⟩
  unfold Ir; rw [hl2]; exact q
set_option maxHeartbeats 4000000 in
theorem earlier_any (h : Tw Q B C t m w) (hC : C ≤ w.heap.size) (I : Inv m) (hnx : m.next ≤ 10000) (hl : m.L.length ≤ 250) (hk : (m.L.map St.seq).reverse[k]? = some m.now) {err seq : Int}
    (hc : (n < 1 ∧ err = 1) ∨ (1 ≤ n ∧ k + 1 = m.L.length ∧ err = 121) ∨ (1 ≤ n ∧ err = 0 ∧ ∃ j : Nat, min n ((m.L.length - (k + 1) : Nat) : Int) = (j : Int) + 1 ∧ (m.L.map St.seq).reverse[k + 1 + j]? = some seq)) :
    Calls Tryz.prog 139 #[.pointer (some ⟨t, 0, none⟩), .int .i64 n] w fun e w' => ∃ v, e = .returned (.tuple #[v, .int .u16 err]) ∧ Led Q B C t w m err seq v w' := by
  have HN : Hid _ := numbers_any h hl I.sq
  have hkl := (List.getElem?_eq_some_iff.1 hk).1
  have HC : Hid (∀ g c w1, Ir w.heap.size (.slice (some ⟨g, 0, none⟩) m.L.length c) (m.L.map St.seq).reverse w1 → Kp w w1 → Calls Tryz.prog 162 #[.pointer (some ⟨t, 0, none⟩), .slice (some ⟨g, 0, none⟩) m.L.length c, .int .i64 n] w1 fun e w' => ∃ v, e = .returned (.tuple #[v, .int .u16 err]) ∧ Led Q B C t w m err seq v w') := fun g c w1 q1 k1 => by
    have eN : m.L.length = (m.L.map St.seq).reverse.length := by simp
    have hnd : (m.L.map St.seq).reverse.Nodup := (List.reverse_perm _).nodup_iff.2 I.nodup
    rcases hc with ⟨h1, rfl⟩ | ⟨h1, h2, rfl⟩ | ⟨h1, rfl, j, h2, h3⟩
    · refine (behind_arg (h.kp k1) q1 eN hnd hk h1).mono ?_
      rintro e w' ⟨rfl, rfl⟩
      exact ⟨_, rfl, .inl ⟨by decide, rfl, k1⟩⟩
    · refine (behind_end (h.kp k1) q1 eN hnd hk h1 h2).mono ?_
      rintro e w' ⟨rfl, rfl⟩
      exact ⟨_, rfl, .inl ⟨by decide, rfl, k1⟩⟩
    · refine (behind_go (h.kp k1) (Nat.le_trans hC k1.size) I hnx q1 eN hnd hk h1 h2 h3 (look_ne.2 (by simpa using List.mem_of_getElem? h3))).mono ?_
      rintro e w' ⟨v, rfl, q⟩
      exact ⟨_, rfl, .inr ⟨rfl, q.kp k1⟩⟩
  have HL : Hid (m.L.map St.seq ≠ [] ∧ (m.L.map St.seq).length = m.L.length) := ⟨fun e => by rw [e] at hkl; simp at hkl, by simp⟩
  clear h I hk hc hkl
  go_enter Tryz.func139, Tryz.ntmps139
  go_wp2_with fail
  refine Calls.mono HN.out ?_
  rintro e w1 ⟨v, rfl, q1, k1⟩
  obtain ⟨g, c, rfl, hg⟩ := q1.some HL.out.1
  have HR : Hid _ := revI_some q1
  have HK : Hid (Kp w w1 ∧ w.heap.size ≤ g) := ⟨k1, hg⟩
  rw [HL.out.2] at HR ⊢
  clear HN q1 k1 hg
  generalize hN : m.L.length = N at HR HC ⊢
  go_wp2_with fail
  refine Calls.mono HR.out ?_
  rintro e w2 ⟨rfl, q2, f2⟩
  have HB : Hid _ := HC.out g c w2 q2 (HK.out.1.trans (f2.below HK.out.1.size fun k hk e => by have := HK.out.2; unfold On at e; omega))
  clear HR HC q2 f2
  go_wp2_with fail
  refine Calls.mono HB.out ?_
  rintro e w3 ⟨v3, rfl, q3⟩
  have H3 : Hid _ := q3
  clear HB q3
  go_wp2_with fail
  go_ret2
  exact ⟨_, rfl, H3.out⟩
end
end Go.Proofs.YtaefeakmlgjonaaGreat
/- The document's above, has. -/
namespace Go.Proofs.YtaefeakmlgjonaaGreat
open Go.ChangeShapes Go.WideShapes Go.ChangeAt Go.RowKit Go.Maps Go.MapKept
set_option linter.unusedVariables false
set_option linter.unusedSimpArgs false
set_option maxRecDepth 100000
section
variable {B C r : Nat} {m : Tr} {w w1 : World}
/-- Where a round of above stands. -/
def Abv (L : List St) (A : List Int) (rt x : Int) (l1 : List Int) : Prop := (x = -1 ∧ l1 = A) ∨ (look L x ≠ none ∧ ∃ l2, A = l1 ++ l2 ++ [rt] ∧ Up L x l2 rt)
theorem Ir.snoc {D : Nat} {v' : Value} {ss : List Int} {x : Int} {w5 : World} (h : w5.ownsRow D 3 1 v' (ss.length + 1) (zcs ss ++ [.int .i64 x])) : Ir D v' (ss ++ [x]) w5 := by
  unfold Ir
  rw [List.length_append, List.length_singleton, show zcs (ss ++ [x]) = zcs ss ++ [.int .i64 x] by simp [zcs]]
  exact h
set_option maxHeartbeats 8000000 in
theorem above_any (h : Rw B C r m w) (I : Inv m) (hn : m.next ≤ 10000) (hl : m.L.length ≤ 250) {seq rt : Int} {l : List Int} {sr : St} (hs : look m.L seq ≠ none) (hu : Up m.L seq l rt) (hr : look m.L rt = some sr) (hr1 : sr.fr = -1) :
    Calls Tryz.prog 159 #[.pointer (some ⟨r, 0, none⟩), .int .i64 seq] w fun e w' => ∃ v, e = .returned v ∧ Ir w.heap.size v (l ++ [rt]) w' ∧ Kp w w' := by
  obtain ⟨i9, hi9, z0, z1, z2⟩ := info_parts infoInt
  have H0 : Hid (Rw B C r m w ∧ Inv m ∧ look m.L seq ≠ none ∧ Up m.L seq l rt ∧ look m.L rt = some sr ∧ sr.fr = -1 ∧ m.next ≤ 10000 ∧ m.L.length ≤ 250 ∧ l.length ≤ 10000) := ⟨h, I, hs, hu, hr, hr1, hn, hl, by
    have q1 := I.fam.up_len hu
    obtain ⟨s, hss⟩ := Option.ne_none_iff_exists'.1 hs
    have q2 := I.fam.fr _ _ hss
    have q3 := I.fam.fr _ _ hr
    omega⟩
  have hsr := I.fam.rg (by omega) hs
  clear h I hs hu hr hr1 hn hl
  go_enter Tryz.func159, Tryz.ntmps159
  go_wp2_with fail
  go_loopw [1, 5] (fun v1 v5 wr => ∃ (x : Int) (a : Option Addr) (n c : Nat), v1 = .int .i64 x ∧ v5 = .slice a n c ∧ -1 ≤ x ∧ x < 1000000 ∧ n ≤ 10001 ∧ Hid (∃ l1, Abv m.L (l ++ [rt]) rt x l1 ∧ l1.length = n ∧ Ir w.heap.size (.slice a n c) l1 wr ∧ Kp w wr)) (fun v1 _ _ => (intOf v1 + 1).toNat)
  case atStart => exact ⟨seq, none, 0, 0, rfl, rfl, by omega, by omega, by omega, [], .inr ⟨H0.out.2.2.1, l, by simp, H0.out.2.2.2.1⟩, rfl, ⟨rfl, .inl ⟨rfl, rfl⟩⟩, Below.refl _ _⟩
  case round =>
    obtain ⟨x, a, n, c, rfl, rfl, hx0, hx1, hn9, HI⟩ := hrel
    by_cases q : x = -1
    · subst q
      have d1 : decide ((-1 : Int) ≥ 0) = false := by decide
      have HX : Hid (Ir w.heap.size (.slice a n c) (l ++ [rt]) wr ∧ Kp w wr) := by
        obtain ⟨l1, h1, h2, h3, h4⟩ := HI.out
        rcases h1 with ⟨_, rfl⟩ | ⟨h1, _⟩
        · exact ⟨h3, h4⟩
        · obtain ⟨s, hss⟩ := Option.ne_none_iff_exists'.1 h1
          have := H0.out.2.1.fam.fr _ _ hss; omega
      clear HI
      go_wp2_with fail
      go_ret
      exact ⟨_, rfl, HX.out⟩
    · have d1 : decide (x ≥ 0) = true := decide_eq_true (by omega)
      have d2 : decide (0 ≤ x) = true := decide_eq_true (by omega)
      obtain ⟨l1, hA, hl1, hI, hK⟩ := HI.out
      obtain ⟨hlk, l2, hA2, hU⟩ : look m.L x ≠ none ∧ ∃ l2, l ++ [rt] = l1 ++ l2 ++ [rt] ∧ Up m.L x l2 rt := by
        rcases hA with ⟨e, _⟩ | h
        · exact absurd e q
        · exact h
      obtain ⟨s, hss⟩ := Option.ne_none_iff_exists'.1 hlk
      have hfr := H0.out.2.1.fam.fr _ _ hss
      obtain ⟨k, hk⟩ := idx_of hlk
      have hks := at_of H0.out.2.1.sq hk hss
      obtain ⟨v, vs, hR⟩ := H0.out.1
      obtain ⟨g, cc, u, rfl, _, hc1, hc2, _, _, e1, _⟩ := hR.cell hks
      have c1 := hR.box.at (j := 1) rfl
      have hkN := (List.getElem?_eq_some_iff.1 hks).1
      have hNl : n ≤ 10000 := by
        have e9 := congrArg List.length hA2
        simp only [List.length_append, List.length_singleton] at e9
        have := H0.out.2.2.2.2.2.2.2.2
        omega
      have HN : Hid (∃ l1', Abv m.L (l ++ [rt]) rt s.fr l1' ∧ l1' = l1 ++ [x]) := by
        refine ⟨_, ?_, rfl⟩
        cases l2 with
        | nil =>
          cases hU
          rw [H0.out.2.2.2.2.1] at hss
          cases hss
          exact .inl ⟨H0.out.2.2.2.2.2.1, by rw [hA2]; simp⟩
        | cons y r2 =>
          obtain ⟨s', r3, j1, e9, j2, j3⟩ := hU.head (by simp)
          cases e9
          rw [hss] at j1; cases j1
          have hne : s.fr ≠ -1 := by cases hU with | cons a1 a2 a3 => rw [hss] at a1; cases a1; exact a2
          exact .inr ⟨H0.out.2.1.fam.from_there hss hne, r2, by rw [hA2]; simp, j3⟩
      have HF : Hid (∀ z, Kp w z → Calls Tryz.prog 112 #[.pointer (some ⟨r, 0, none⟩), .int .i64 x] z fun e w' => e = .returned (.int .i64 k) ∧ w' = z) := fun z kz => find_some (H0.out.1.kp kz) H0.out.2.2.2.2.2.2.2.1 H0.out.2.1.nodup hk
      have HROW : Hid ((wr.alloc (.cells #[.int .i64 x] 3)).ownsRow w.heap.size 3 1 (.slice a n c) n (zcs l1)) := by rw [← hl1] at hI ⊢; exact row_kp hI (kp_alloc _ _)
      have HNEW : Hid (∀ j u, ([.int .i64 x] : List Value)[j]? = some u → (wr.alloc (.cells #[.int .i64 x] 3)).cell? ((⟨wr.heap.size, 0, none⟩ : Addr).add j) = some u) := fun j u hj => by rw [addr_add]; exact (Lc.new wr [.int .i64 x] 3).at hj
      have HBW : Hid (w.heap.size ≤ (wr.alloc (.cells #[.int .i64 x] 3)).heap.size) := by show _ ≤ _; rw [alloc_size]; have := hK.size; omega
      have HP : Hid (∀ v4 w4, w4.ownsRow w.heap.size 3 1 v4 (n + 1) (zcs l1 ++ [.int .i64 x]) → (wr.alloc (.cells #[.int .i64 x] 3)).grownBy w4 (Value.slice a n c).ownBlock → ∃ a4 c4, v4 = .slice a4 (n + 1) c4 ∧ w4.cell? ⟨r, 1, none⟩ = some (.slice (some ⟨g, 0, none⟩) m.L.length cc) ∧ w4.cell? ⟨g, k * 4 + 1, none⟩ = some (.int .i64 s.fr) ∧ Hid (Ir w.heap.size (.slice a4 (n + 1) c4) (l1 ++ [x]) w4 ∧ Kp w w4)) := fun v4 w4 x1 x2 => by
        obtain ⟨a4, c4, rfl, _, _⟩ := owns_form x1
        have k4 : Kp w w4 := (kp_trans hK (kp_alloc _ _)).trans (below_grown HROW.out HBW.out x2)
        refine ⟨a4, c4, rfl, kp_cell k4 c1, kp_cell k4 e1, ?_, k4⟩
        rw [← hl1] at x1
        have := Ir.snoc x1
        rw [hl1] at this
        exact this
      have hl9 : n + 1 = (l1 ++ [x]).length := by rw [List.length_append, List.length_singleton, hl1]
      have HL9 : Hid (n + 1 = (l1 ++ [x]).length) := hl9
      unfold maxLen at hc2
      generalize m.L.length = NL at HP hkN hc1
      clear hA hl1 hI hA2 hU hss hk hks hR c1 e1 hl9 HI hlk hK
      go_upto_region 4 with (at_builtin; refine wpList_append_own _ rfl (.tmp 8) (.tmp 10) 120 rfl w.heap.size 3 i9 _ 1 8 Tryz.underlying120 hi9 z0 z1 z2 rfl (by decide) (.slice a n c) n (zcs l1) rfl HROW.out ⟨wr.heap.size, 0, none⟩ 1 1 [.int .i64 x] rfl rfl HNEW.out (by simp [Value.oneCell']) (by unfold maxLen; omega) (by omega) HBW.out ?_; intro v4 w4 x1 x2 _; obtain ⟨a4, c4, rfl, y1, y2, H4⟩ := HP.out v4 w4 x1 x2; clear x1 x2)
      go_quiet ((go_at_call 112; exact Calls.quiet_of_same (HF.out _ (kp_trans H4.out.2 (by first | exact Below.refl _ _ | exact kp_drewN _ _)))))
      go_wp2_with fail
      go_roundw
      case rel =>
        obtain ⟨l9, h9, e9⟩ := HN.out
        subst e9
        exact ⟨s.fr, a4, n + 1, c4, rfl, rfl, by omega, by omega, by omega, l1 ++ [x], h9, HL9.out.symm, H4.out.1.kp (kp_drewN _ _), kp_trans H4.out.2 (kp_drewN _ _)⟩
      case measure => simp only [intOf]; omega
set_option maxHeartbeats 4000000 in
theorem has_any {D : Nat} {v : Value} {ss : List Int} (h : Ir D v ss w) (hl : ss.length ≤ 1000000) (x : Int) :
    Calls Tryz.prog 160 #[v, .int .i64 x] w fun e w' => e = .returned (.bool (decide (x ∈ ss))) ∧ w' = w := by
  obtain ⟨a, c, rfl, hc1, hc2⟩ := h.form
  obtain ⟨N, hN⟩ : ∃ N, ss.length = N := ⟨_, rfl⟩
  have HC : Hid (∀ i, i < N → ∃ g y, a = some ⟨g, 0, none⟩ ∧ w.cell? ⟨g, i, none⟩ = some (.int .i64 y) ∧ ss[i]? = some y) := fun i hi => by
    rcases h.2 with ⟨_, e0⟩ | ⟨g, c', cur, e, _⟩
    · omega
    · cases e
      obtain ⟨y, hy⟩ : ∃ y, ss[i]? = some y := ⟨_, List.getElem?_eq_getElem (by omega)⟩
      exact ⟨g, y, rfl, Ir.cell h rfl hy, hy⟩
  have HN : Hid (ss.length = N) := hN
  rw [hN] at hl hc1 ⊢
  unfold maxLen at hc2
  clear h hN
  go_enter Tryz.func160, Tryz.ntmps160
  go_wp2_with fail
  go_loopw [5] (fun v5 wr => ∃ i : Nat, i ≤ N ∧ v5 = .int .i64 i ∧ wr = w ∧ Hid (∀ y ∈ ss.take i, y ≠ x)) (fun v5 _ => N - (intOf v5).toNat)
  case atStart => exact ⟨0, Nat.zero_le _, rfl, rfl, by intro y hy; simp at hy⟩
  case round =>
    obtain ⟨i, hi, rfl, rfl, HI⟩ := hrel
    by_cases p : i < N
    · have d1 : decide ((i : Int) < (N : Int)) = true := decide_eq_true (by omega)
      have d2 : decide (i < N) = true := decide_eq_true (by omega)
      obtain ⟨g, y, rfl, e1, hy⟩ := HC.out i p
      by_cases e : y = x
      · subst e
        have d3 : (y == y) = true := by simp
        have HX : Hid (decide (y ∈ ss) = true) := decide_eq_true (List.mem_of_getElem? hy)
        clear hy HI
        go_wp2_with fail
        go_ret
        exact ⟨by rw [HX.out]; rfl, rfl⟩
      · have d3 : (y == x) = false := by simpa using e
        have HX : Hid (∀ z ∈ ss.take (i + 1), z ≠ x) := by
          intro z hz
          rw [take_snoc ss hy] at hz
          rcases List.mem_append.1 hz with hz | hz
          · exact HI.out z hz
          · simp only [List.mem_singleton] at hz; subst hz; exact e
        clear hy HI
        go_wp2_with fail
        go_roundw
        case rel => exact ⟨i + 1, by omega, by go_num, trivial, HX.out⟩
        case measure => simp only [intOf]; omega
    · obtain rfl : i = N := by omega
      have d1 : decide ((i : Int) < (i : Int)) = false := by simp
      have HX : Hid (decide (x ∈ ss) = false) := by
        have h1 := HI.out
        rw [List.take_of_length_le (by rw [HN.out]; exact Nat.le_refl _)] at h1
        exact decide_eq_false fun hx => h1 x hx rfl
      clear HI
      go_wp2_with fail
      go_ret
      exact ⟨by rw [HX.out]; rfl, rfl⟩
end
end Go.Proofs.YtaefeakmlgjonaaGreat
/- Ways on lead down to the state that is: pure. -/
namespace Go.Proofs.YtaefeakmlgjonaaGreat
open Go.ChangeShapes Go.WideShapes Go.ChangeAt Go.RowKit Go.Maps Go.MapKept
set_option linter.unusedVariables false
set_option linter.unusedSimpArgs false
/-- Along the way up from x each way on leads down to x. -/
inductive Pth (L : List St) : Int → Prop
  | root {x : Int} {s : St} : look L x = some s → s.fr = -1 → Pth L x
  | step {x : Int} {s s' : St} : look L x = some s → s.fr ≠ -1 → look L s.fr = some s' → s'.on = x → Pth L s.fr → Pth L x
section
variable {L : List St} {x y a b c d top next : Int} {l : List Int} {s : St}
theorem setOn_same (hs : (L.map St.seq).Pairwise (· < ·)) (ha : look L a = some s) (ho : s.on = b) : setOn L a b = L := by
  unfold setOn
  conv => rhs; rw [← List.map_id L]
  refine List.map_congr_left fun t ht => ?_
  by_cases q : t.seq = a
  · obtain ⟨i, hi⟩ := List.getElem?_of_mem ht
    have := look_at hs hi
    rw [q, ha] at this
    cases this
    rw [if_pos q, ← ho]; rfl
  · rw [if_neg q]; rfl
theorem setOn_comm (h : a ≠ c) : setOn (setOn L a b) c d = setOn (setOn L c d) a b := by
  unfold setOn
  rw [List.map_map, List.map_map]
  refine List.map_congr_left fun t _ => ?_
  simp only [Function.comp]
  have hc : ∀ (p q : Int) (u : St), (if u.seq = p then { u with on := q } else u).seq = u.seq := fun p q u => by split <;> rfl
  rw [hc, hc]
  by_cases q1 : t.seq = a
  · have q2 : t.seq ≠ c := fun e => h (by rw [← q1, e])
    rw [if_pos q1, if_neg q2, if_neg q2, if_pos q1]
  · by_cases q2 : t.seq = c
    · rw [if_neg q1, if_pos q2, if_neg q1]
    · rw [if_neg q1, if_neg q2, if_neg q1]
/-- Ways on are laid from above. -/
def dled (L : List St) : List Int → Int → List St
  | [], _ => L
  | x :: l, top => setOn (dled L l top) (l.headD top) x
theorem led_on : ∀ (l : List Int) (L : List St), (∀ z ∈ l.drop 1, z ≠ a) → (l ≠ [] → top ≠ a) → led (setOn L a x) l top = setOn (led L l top) a x
  | [], L, _, _ => rfl
  | y :: r, L, h1, h2 => by
    have hne : a ≠ r.headD top := by
      cases r with
      | nil => exact Ne.symm (h2 (by simp))
      | cons b r2 => exact Ne.symm (h1 b (by simp))
    show led (setOn (setOn L a x) (r.headD top) y) r top = setOn (led (setOn L (r.headD top) y) r top) a x
    rw [setOn_comm hne]
    exact led_on r _ (fun z hz => h1 z (by simp only [List.drop_succ_cons, List.drop_zero]; exact List.mem_of_mem_drop hz)) (fun _ => h2 (by simp))
theorem Fam.dled (F : Fam L next) (h : Up L x l y) : Go.Proofs.YtaefeakmlgjonaaGreat.led L l y = Go.Proofs.YtaefeakmlgjonaaGreat.dled L l y := by
  induction l generalizing x with
  | nil => rfl
  | cons a r ih =>
    obtain ⟨s, r', h1, e, h2, h3⟩ := h.head (by simp)
    cases e
    show Go.Proofs.YtaefeakmlgjonaaGreat.led (Go.Proofs.YtaefeakmlgjonaaGreat.setOn L (r.headD y) a) r y = Go.Proofs.YtaefeakmlgjonaaGreat.setOn (Go.Proofs.YtaefeakmlgjonaaGreat.dled L r y) (r.headD y) a
    rw [led_on, ih h3]
    · intro z hz
      cases r with
      | nil => simp at hz
      | cons b r2 =>
        have hz' : z ∈ r2 := by simpa using hz
        obtain ⟨s4, r4, j1, j2, j3, j4⟩ := h3.head (by simp)
        cases j2
        have k1 := (F.up_le j4).2.1 z hz'
        have k2 := (F.fr _ _ j1).2.1
        show z ≠ s.fr
        omega
    · intro hr
      have := (F.up_le h3).2.2 hr
      rw [h2]; omega
theorem Pth.there (h : Pth L x) : look L x ≠ none := by cases h with | root h _ => rw [h]; simp | step h _ _ _ _ => rw [h]; simp
theorem Pth.mono {M : List St} (h : Pth L x) (F : Fam L next) (hm : ∀ z s, look L z = some s → ∃ s', look M z = some s' ∧ s'.fr = s.fr ∧ (z < x → s'.on = s.on)) : Pth M x := by
  induction h with
  | root h1 h2 =>
    obtain ⟨s', q1, q2, _⟩ := hm _ _ h1
    exact .root q1 (q2.trans h2)
  | step h1 h2 h3 h4 h5 ih =>
    have hlt := (F.fr _ _ h1).2.1
    obtain ⟨s1, q1, q2, _⟩ := hm _ _ h1
    obtain ⟨s2, q3, q4, q5⟩ := hm _ _ h3
    have ih' := ih fun z s hz => by
      obtain ⟨s3, p1, p2, p3⟩ := hm z s hz
      exact ⟨s3, p1, p2, fun hz2 => p3 (by omega)⟩
    exact .step q1 (by rw [q2]; exact h2) (s' := s2) (by rw [q2]; exact q3) ((q5 hlt).trans h4) (by rw [q2]; exact ih')
theorem Pth.up (h : Pth L x) (hs : look L x = some s) (hf : s.fr ≠ -1) : Pth L s.fr ∧ ∃ s', look L s.fr = some s' ∧ s'.on = x := by
  cases h with
  | root h1 h2 => rw [hs] at h1; cases h1; exact absurd h2 hf
  | step h1 h2 h3 h4 h5 => rw [hs] at h1; cases h1; exact ⟨h5, _, h3, h4⟩
theorem Pth.ups (h : Pth L x) (hu : Up L x l y) : Pth L y := by
  induction hu with
  | nil => exact h
  | cons h1 h2 h3 ih => exact ih (h.up h1 h2).1
theorem Pth.down (h : Pth L x) (F : Fam L next) (hs : look L x = some s) (ho : s.on ≠ -1) : Pth L s.on := by
  obtain ⟨s', q1, q2⟩ := F.on _ _ hs ho
  have hx := (F.fr _ _ hs).2.2.1
  exact .step q1 (by omega) (s' := s) (by rw [q2]; exact hs) rfl (by rw [q2]; exact h)
theorem Up.headD {M : List St} {x y : Int} {l : List Int} (h : Up M x l y) : l.headD y = x := by cases h <;> rfl
theorem ways_pth {M : List St} (hu : Up M x l top) (hw : Ways M l top) (hp : Pth M top) : Pth M x := by
  induction hu with
  | nil => exact hp
  | cons h1 h2 h3 ih =>
    obtain ⟨⟨s', q1, q2⟩, q3⟩ := hw
    rw [h3.headD] at q1
    exact .step h1 h2 q1 q2 (ih q3 hp)
end
/-- No way on: none was made from it. -/
def OnK (L : List St) : Prop := ∀ x s, look L x = some s → s.on = -1 → ∀ y s', look L y = some s' → s'.fr ≠ x
/-- What is kept of both trees. -/
structure Inw (m : Tr) : Prop where
  inv : Inv m
  pth : Pth m.L m.now
  onk : OnK m.L
section
variable {m : Tr} {s : St} {ds : List Dl}
theorem inw_first (most : Int) : Inw (first most) := ⟨inv_first most, .root (s := ⟨0, -1, -1, []⟩) rfl rfl, fun x s h _ y s' h' => by
  have e : ∀ z u, look (first most).L z = some u → z = 0 ∧ u.fr = -1 := fun z u q => by
    unfold first at q; rw [look_cons] at q
    split at q
    · rename_i e; cases q; exact ⟨e.symm, rfl⟩
    · cases q
  rw [(e _ _ h').2, (e _ _ h).1]; decide⟩
theorem onk_setOn {L : List St} {a b : Int} (h : OnK L) (hb : b ≠ -1) : OnK (setOn L a b) := fun x s hx ho y s' hy => by
  obtain ⟨s0, q1, _, _, q4, q5⟩ := fr_on' L a b x s hx
  obtain ⟨s1, p1, p2, _⟩ := fr_on' L a b y s' hy
  rw [← p2]
  by_cases e : x = a
  · exact absurd ((q5 e).symm.trans ho) hb
  · exact h x s0 q1 (by rw [q4 e]; exact ho) y s1 p1
theorem onk_led {top : Int} : ∀ (l : List Int) (L : List St), (∀ z ∈ l, z ≠ -1) → OnK L → OnK (led L l top)
  | [], _, _, h => h
  | x :: l, L, hl, h => onk_led l _ (fun z hz => hl z (by simp [hz])) (onk_setOn h (hl x (by simp)))
theorem Inw.add (h : Inw m) (hf : Few 2000 ds) : Inw (addT m ds) := by
  have hlt := h.inv.lt
  refine ⟨h.inv.add hf, ?_, fun x s hx ho y s' hy => ?_⟩
  rotate_left
  · have hy0 := (h.inv.add hf).fam.fr _ _ hy
    rw [addT_look h.inv] at hx hy
    by_cases e : x = m.next
    · have : y < m.next + 1 := hy0.2.2.2
      omega
    · rw [if_neg e] at hx
      obtain ⟨s0, q1, q2⟩ := Option.map_eq_some_iff.1 hx
      by_cases e2 : x = m.now
      · rw [if_pos e2] at q2; subst q2
        have : m.next = -1 := ho
        omega
      · rw [if_neg e2] at q2; subst q2
        by_cases e3 : y = m.next
        · rw [if_pos e3] at hy; cases hy; exact fun q => e2 q.symm
        · rw [if_neg e3] at hy
          obtain ⟨s1, p1, p2⟩ := Option.map_eq_some_iff.1 hy
          have : s'.fr = s1.fr := by rw [← p2]; split <;> rfl
          rw [this]; exact h.onk x s0 q1 ho y s1 p1
  show Pth (addT m ds).L m.next
  have old : ∀ x s, look m.L x = some s → ∃ s', look (addT m ds).L x = some s' ∧ s'.fr = s.fr ∧ (x = m.now → s'.on = m.next) ∧ (x ≠ m.now → s'.on = s.on) := fun x s hs => by
    have := h.inv.fam.fr _ _ hs
    rw [addT_look h.inv, if_neg (by omega), hs]
    by_cases q : x = m.now
    · exact ⟨_, rfl, by simp [q], fun _ => by simp [q], fun e => absurd q e⟩
    · exact ⟨_, rfl, by simp [q], fun e => absurd e q, fun _ => by simp [q]⟩
  obtain ⟨s, hs⟩ := Option.ne_none_iff_exists'.1 h.inv.nw
  obtain ⟨s', q1, q2, q3, _⟩ := old _ _ hs
  refine .step (s := ⟨m.next, m.now, -1, ds⟩) (by rw [addT_look h.inv, if_pos rfl]) (by show m.now ≠ -1; omega) q1 (q3 rfl) ?_
  refine h.pth.mono h.inv.fam fun z s hz => ?_
  obtain ⟨s', p1, p2, p3, p4⟩ := old z s hz
  exact ⟨s', p1, p2, fun hlt => p4 (by omega)⟩
theorem Inw.up (h : Inw m) (hs : look m.L m.now = some s) (hf : s.fr ≠ -1) : Inw { m with now := s.fr } := ⟨h.inv.up hs hf, (h.pth.up hs hf).1, h.onk⟩
theorem Inw.down (h : Inw m) (hs : look m.L m.now = some s) (ho : s.on ≠ -1) : Inw { m with now := s.on } := ⟨h.inv.down hs ho, h.pth.down h.inv.fam hs ho, h.onk⟩
theorem Inw.go (h : Inw m) {seq top : Int} {l1 l2 : List Int} (hm : Meet m.L m.now seq top l1 l2) (hs : look m.L seq ≠ none) : Inw { m with L := led m.L l2 top, now := seq } := by
  refine ⟨h.inv.go hm hs, ?_, onk_led l2 m.L (fun z hz => ?_) h.onk⟩
  rotate_left
  · obtain ⟨s, q⟩ := Option.ne_none_iff_exists'.1 (hm.u2.there z hz)
    have := h.inv.fam.fr _ _ q; omega
  have hle := h.inv.fam.up_le hm.u2
  refine ways_pth (hm.u2.led l2 top) (h.inv.fam.ways hm.u2 hs) ?_
  refine (h.pth.ups hm.u1).mono h.inv.fam fun z s hz => ?_
  obtain ⟨s', q1, q2⟩ := fr_led (y := top) l2 m.L z s hz
  refine ⟨s', q1, q2, fun hlt => ?_⟩
  have := led_look hm.u2 h.inv.fam z (fun w hw e => by
    have := (hle.2.1 w (List.mem_of_mem_drop hw)).1
    omega) (by omega)
  rw [this, hz] at q1
  cases q1; rfl
theorem Inw.same (h : Inw m) (hs : look m.L m.now = some s) (hf : s.fr ≠ -1) : setOn m.L s.fr m.now = m.L := by
  obtain ⟨_, s', q1, q2⟩ := h.pth.up hs hf
  exact setOn_same h.inv.sq q1 q2
end
end Go.Proofs.YtaefeakmlgjonaaGreat
/- What goes when there is no more room: pure. -/
namespace Go.Proofs.YtaefeakmlgjonaaGreat
set_option linter.unusedVariables false
set_option linter.unusedSimpArgs false
/-- All but one. -/
def dropL (L : List St) (x : Int) : List St := L.filter fun s => !decide (s.seq = x)
/-- Those that were made from one. -/
def kidsL (L : List St) (x : Int) : List St := L.filter fun s => decide (s.fr = x)
/-- The greatest number of these. -/
def newest (L : List St) (x : Int) : Int := ((kidsL L x).getLast?.map St.seq).getD (-1)
/-- A state goes; the way on of the one from which it came may be another. -/
def cutT (L : List St) (x fr : Int) : List St :=
  match look (dropL L x) fr with
  | some p => if p.on = x then setOn (dropL L x) fr (newest (dropL L x) fr) else dropL L x
  | none => dropL L x
/-- From this one no state was made. -/
def unroot (x : Int) (s : St) : St := if s.fr = x then { s with fr := -1, by_ := [] } else s
/-- The first one goes. -/
def rootT : List St → List St
  | [] => []
  | r :: L => L.map (unroot r.seq)
def bareP (m : Tr) (s : St) : Bool := decide (s.on = -1) && !decide (s.seq = m.now)
/-- One goes. -/
def evT (m : Tr) : Tr :=
  match m.L.find? (bareP m) with
  | some s => { m with L := cutT m.L s.seq s.fr }
  | none => { m with L := rootT m.L }
/-- Add, whatever room there is. -/
def addE (m : Tr) (ds : List Dl) : Tr := if m.most < ((addT m ds).L.length : Int) then evT (addT m ds) else addT m ds
section
variable {L : List St} {x y a b next : Int} {s : St} {l : List Int}
theorem look_drop (L : List St) (x y : Int) : look (dropL L x) y = if y = x then none else look L y := by
  induction L with
  | nil => unfold dropL look; split <;> rfl
  | cons s L ih =>
    unfold dropL at ih ⊢
    rw [List.filter_cons]
    by_cases q : s.seq = x
    · rw [if_neg (by simp [q]), ih, look_cons]
      by_cases p : y = x
      · rw [if_pos p, if_pos p]
      · rw [if_neg p, if_neg p, if_neg (by rw [q]; exact fun e => p e.symm)]
    · rw [if_pos (by simp [q]), look_cons, look_cons, ih]
      by_cases p : s.seq = y
      · rw [if_pos p, if_pos p, if_neg (by rw [← p]; exact q)]
      · rw [if_neg p, if_neg p]
theorem look_map {g : St → St} (hg : ∀ s, (g s).seq = s.seq) (L : List St) (y : Int) : look (L.map g) y = (look L y).map g := by
  induction L with
  | nil => rfl
  | cons s L ih =>
    rw [List.map_cons, look_cons, look_cons, hg, ih]
    split <;> rfl
theorem mem_look (hs : (L.map St.seq).Pairwise (· < ·)) (h : s ∈ L) : look L s.seq = some s := by
  induction L with
  | nil => cases h
  | cons a L ih =>
    rw [List.map_cons, List.pairwise_cons] at hs
    rw [look_cons]
    rcases List.mem_cons.1 h with rfl | h
    · rw [if_pos rfl]
    · have := hs.1 s.seq (List.mem_map.2 ⟨s, h, rfl⟩)
      rw [if_neg (by omega), ih hs.2 h]
theorem drop_sub (L : List St) (x : Int) : (dropL L x).Sublist L := List.filter_sublist
theorem drop_sorted (hs : (L.map St.seq).Pairwise (· < ·)) (x : Int) : ((dropL L x).map St.seq).Pairwise (· < ·) := List.Pairwise.sublist ((drop_sub L x).map _) hs
theorem last_max : ∀ {l : List St}, (l.map St.seq).Pairwise (· < ·) → ∀ {z}, l.getLast? = some z → ∀ s ∈ l, s.seq ≤ z.seq
  | [], _, _, h, _, _ => by simp at h
  | [a], _, z, h, s, hm => by
    simp at h hm; subst h; subst hm; exact Int.le_refl _
  | a :: b :: l, hs, z, h, s, hm => by
    rw [List.map_cons, List.pairwise_cons] at hs
    rw [List.getLast?_cons_cons] at h
    have hz : z ∈ b :: l := List.mem_of_getLast? h
    rcases List.mem_cons.1 hm with rfl | hm
    · have := hs.1 z.seq (List.mem_map.2 ⟨z, hz, rfl⟩); omega
    · exact last_max hs.2 h s hm
theorem newest_cases (hs : (L.map St.seq).Pairwise (· < ·)) (x : Int) :
    (newest L x = -1 ∧ ∀ y s, look L y = some s → s.fr ≠ x) ∨ ∃ s, look L (newest L x) = some s ∧ s.fr = x ∧ ∀ y s', look L y = some s' → s'.fr = x → y ≤ newest L x := by
  have hk : (kidsL L x).Sublist L := List.filter_sublist
  unfold newest
  cases e : (kidsL L x).getLast? with
  | none =>
    refine .inl ⟨rfl, fun y s h q => ?_⟩
    have : s ∈ kidsL L x := List.mem_filter.2 ⟨look_mem h, by simpa using q⟩
    rw [List.getLast?_eq_none_iff] at e
    rw [e] at this; cases this
  | some z =>
    have hz : z ∈ kidsL L x := List.mem_of_getLast? e
    have hz2 := List.mem_filter.1 hz
    refine .inr ⟨z, mem_look hs hz2.1, by simpa using hz2.2, fun y s' h q => ?_⟩
    have hm : s' ∈ kidsL L x := List.mem_filter.2 ⟨look_mem h, by simpa using q⟩
    have := last_max (List.Pairwise.sublist (hk.map _) hs) e s' hm
    rw [look_seq h] at this; exact this
theorem look_cut {fr : Int} (hf : fr ≠ x) (y : Int) : look (cutT L x fr) y = if y = x then none else (look L y).map fun a => if y = fr ∧ a.on = x then { a with on := newest (dropL L x) fr } else a := by
  unfold cutT
  have e := look_drop L x fr
  rw [if_neg hf] at e
  rw [e]
  cases h : look L fr with
  | none =>
    show look (dropL L x) y = _
    rw [look_drop]
    by_cases q : y = x
    · rw [if_pos q, if_pos q]
    · rw [if_neg q, if_neg q]
      cases h2 : look L y with
      | none => rfl
      | some a =>
        rw [Option.map_some, if_neg]
        rintro ⟨rfl, _⟩
        rw [h] at h2; cases h2
  | some p =>
    show look (if p.on = x then setOn (dropL L x) fr (newest (dropL L x) fr) else dropL L x) y = _
    by_cases hp : p.on = x
    · rw [if_pos hp, look_on, look_drop]
      by_cases q : y = x
      · rw [if_pos q, if_pos q]; rfl
      · rw [if_neg q, if_neg q]
        cases h2 : look L y with
        | none => rfl
        | some a =>
          rw [Option.map_some, Option.map_some]
          by_cases q2 : y = fr
          · subst q2; rw [h] at h2; cases h2
            rw [if_pos rfl, if_pos ⟨rfl, hp⟩]
          · rw [if_neg q2, if_neg (fun z => q2 z.1)]
    · rw [if_neg hp, look_drop]
      by_cases q : y = x
      · rw [if_pos q, if_pos q]
      · rw [if_neg q, if_neg q]
        cases h2 : look L y with
        | none => rfl
        | some a =>
          rw [Option.map_some, if_neg]
          rintro ⟨rfl, q3⟩
          rw [h] at h2; cases h2
          exact hp q3
theorem cut_seq (L : List St) (x fr : Int) : (cutT L x fr).map St.seq = (dropL L x).map St.seq := by
  unfold cutT
  split
  · split
    · exact setOn_seq _ _ _
    · rfl
  · rfl
theorem Up.last (h : Up L a l x) (hl : l ≠ []) : ∃ z s, look L z = some s ∧ s.fr = x := by
  induction h with
  | nil => exact absurd rfl hl
  | cons h1 h2 h3 ih =>
    cases h3 with
    | nil => exact ⟨_, _, h1, rfl⟩
    | cons k1 k2 k3 => exact ih (by simp)
/-- What has no way on, and is not the one that is, came from one. -/
theorem bare_fr (F : Fam L next) (K : OnK L) {now : Int} (hn : look L now ≠ none) (hx : look L x = some s) (ho : s.on = -1) (hne : x ≠ now) : s.fr ≠ -1 := by
  intro e
  obtain ⟨r, sr, h1, h2, h3⟩ := F.rt
  obtain ⟨l, hl⟩ := h3 x (by rw [hx]; simp)
  have exr : x = r := by
    cases hl with
    | nil => rfl
    | cons k1 k2 _ => rw [hx] at k1; cases k1; exact absurd e k2
  subst exr
  obtain ⟨l, hl⟩ := h3 now hn
  obtain ⟨z, s', q1, q2⟩ := hl.last (by rintro rfl; cases hl; exact hne rfl)
  exact K x s hx ho z s' q1 q2
end
section
variable {m : Tr} {s : St} {x next : Int}
theorem inw_cut (I : Inw m) (hx : look m.L x = some s) (ho : s.on = -1) (hne : x ≠ m.now) : Inw { m with L := cutT m.L x s.fr } := by
  have F := I.inv.fam
  have hk := I.onk x s hx ho
  have hf := bare_fr F I.onk I.inv.nw hx ho hne
  have hxf := F.fr _ _ hx
  have hfx : s.fr ≠ x := by omega
  have hlk := fun y => look_cut (L := m.L) hfx y
  have hM := drop_sorted I.inv.sq x
  have hnw := newest_cases hM s.fr
  obtain ⟨N, hN⟩ : ∃ N, newest (dropL m.L x) s.fr = N := ⟨_, rfl⟩
  rw [hN] at hnw
  have old : ∀ y s', look (cutT m.L x s.fr) y = some s' → y ≠ x ∧ ∃ s0, look m.L y = some s0 ∧ s'.fr = s0.fr ∧ s'.by_ = s0.by_ ∧ ((s'.on = s0.on ∧ ¬ (y = s.fr ∧ s0.on = x)) ∨ (y = s.fr ∧ s0.on = x ∧ s'.on = N)) := fun y s' h => by
    rw [hlk y] at h
    by_cases q : y = x
    · rw [if_pos q] at h; cases h
    · rw [if_neg q] at h
      obtain ⟨s0, h0, h1⟩ := Option.map_eq_some_iff.1 h
      refine ⟨q, s0, h0, ?_⟩
      by_cases p : y = s.fr ∧ s0.on = x
      · rw [if_pos p] at h1; subst h1; exact ⟨rfl, rfl, .inr ⟨p.1, p.2, hN⟩⟩
      · rw [if_neg p] at h1; subst h1; exact ⟨rfl, rfl, .inl ⟨rfl, p⟩⟩
  have new : ∀ y s0, look m.L y = some s0 → y ≠ x → ∃ s', look (cutT m.L x s.fr) y = some s' ∧ s'.fr = s0.fr ∧ s'.by_ = s0.by_ ∧ (s0.on ≠ x → s'.on = s0.on) := fun y s0 h q => by
    rw [hlk y, if_neg q, h]
    by_cases p : y = s.fr ∧ s0.on = x
    · exact ⟨_, rfl, by simp [p], by simp [p], fun z => absurd p.2 z⟩
    · exact ⟨_, rfl, by simp [p], by simp [p], fun _ => by simp [p]⟩
  have up : ∀ {c l y}, Up m.L c l y → c ≠ x → Up (cutT m.L x s.fr) c l y := fun h => by
    induction h with
    | nil c => intro _; exact .nil c
    | cons h1 h2 h3 ih =>
      intro q
      obtain ⟨s', k1, k2, _⟩ := new _ _ h1 q
      exact .cons k1 (by rw [k2]; exact h2) (by rw [k2]; exact ih (hk _ _ h1))
  refine ⟨⟨⟨fun y s' h => ?_, ?_, fun y s' h hon => ?_, fun y s' h => ?_⟩, ?_, ?_⟩, ?_, fun y s' h hon z s2 hz => ?_⟩
  · obtain ⟨_, s0, h0, h1, _⟩ := old y s' h
    rw [h1]; exact F.fr _ _ h0
  · obtain ⟨r, sr, h1, h2, h3⟩ := F.rt
    have hr : r ≠ x := by rintro rfl; rw [hx] at h1; cases h1; exact hf h2
    obtain ⟨s', k1, k2, _⟩ := new r sr h1 hr
    refine ⟨r, s', k1, k2.trans h2, fun y hy => ?_⟩
    obtain ⟨s2, hs2⟩ := Option.ne_none_iff_exists'.1 hy
    obtain ⟨hyx, s0, h0, _⟩ := old y s2 hs2
    obtain ⟨l, hl⟩ := h3 y (by rw [h0]; simp)
    exact ⟨l, up hl hyx⟩
  · obtain ⟨hyx, s0, h0, _, _, ⟨e, hno⟩ | ⟨e1, e2, e3⟩⟩ := old y s' h
    · rw [e] at hon ⊢
      obtain ⟨t, ht, hft⟩ := F.on _ _ h0 hon
      have : s0.on ≠ x := by
        intro q
        rw [q, hx] at ht; cases ht
        exact hno ⟨hft.symm, q⟩
      obtain ⟨t', k1, k2, _⟩ := new _ _ ht this
      exact ⟨t', k1, k2.trans hft⟩
    · rw [e3] at hon ⊢
      rcases hnw with ⟨q, _⟩ | ⟨t, ht, hft, _⟩
      · exact absurd q hon
      · rw [look_drop] at ht
        split at ht
        · cases ht
        · rename_i hNx
          obtain ⟨t', k1, k2, _⟩ := new _ _ ht hNx
          exact ⟨t', k1, k2.trans (hft.trans e1.symm)⟩
  · obtain ⟨_, s0, h0, _, h1, _⟩ := old y s' h
    rw [h1]; exact F.few _ _ h0
  · show ((cutT m.L x s.fr).map St.seq).Pairwise _
    rw [cut_seq]; exact hM
  · show look (cutT m.L x s.fr) m.now ≠ none
    obtain ⟨s0, h0⟩ := Option.ne_none_iff_exists'.1 I.inv.nw
    obtain ⟨s', k1, _⟩ := new _ _ h0 (fun e => hne e.symm)
    rw [k1]; simp
  · have key : ∀ c, Pth m.L c → c ≠ x → Pth (cutT m.L x s.fr) c := fun c h => by
      induction h with
      | root h1 h2 =>
        intro q
        obtain ⟨s', k1, k2, _⟩ := new _ _ h1 q
        exact .root k1 (k2.trans h2)
      | step h1 h2 h3 h4 h5 ih =>
        intro q
        obtain ⟨s', k1, k2, _⟩ := new _ _ h1 q
        have hn := hk _ _ h1
        obtain ⟨s2, j1, _, _, j2⟩ := new _ _ h3 hn
        have hon := j2 (by rw [h4]; exact q)
        exact .step k1 (by rw [k2]; exact h2) (by rw [k2]; exact j1) (hon.trans h4) (by rw [k2]; exact ih hn)
    exact key _ I.pth (fun e => hne e.symm)
  · obtain ⟨hyx, s0, h0, _, _, ⟨e, hno⟩ | ⟨e1, e2, e3⟩⟩ := old y s' h
    · obtain ⟨_, s3, h3, e4, _⟩ := old z s2 hz
      rw [e4]; exact I.onk y s0 h0 (by rw [← e]; exact hon) z s3 h3
    · rcases hnw with ⟨q, hno⟩ | ⟨t, ht, hft, _⟩
      · obtain ⟨hzx, s3, h3, e4, _⟩ := old z s2 hz
        rw [e4, e1]
        exact hno z s3 (by rw [look_drop, if_neg hzx]; exact h3)
      · rw [look_drop] at ht
        split at ht
        · cases ht
        · have := F.fr _ _ ht
          omega
end
end Go.Proofs.YtaefeakmlgjonaaGreat
/- The first one goes: pure. -/
namespace Go.Proofs.YtaefeakmlgjonaaGreat
set_option linter.unusedVariables false
set_option linter.unusedSimpArgs false
section
variable {L : List St} {x y z a now next : Int} {s : St} {l : List Int} {m : Tr}
/-- No state but the one that is has no way on. -/
def Full (L : List St) (now : Int) : Prop := ∀ y s, look L y = some s → y ≠ now → s.on ≠ -1
/-- Then the one that is comes from each. -/
theorem below_now (F : Fam L next) (H : Full L now) : ∀ (n : Nat) (y : Int), (next - y).toNat ≤ n → look L y ≠ none → ∃ l, Up L now l y
  | 0, y, hn, hy => by
    obtain ⟨s, hs⟩ := Option.ne_none_iff_exists'.1 hy
    have := F.fr _ _ hs; omega
  | n + 1, y, hn, hy => by
    obtain ⟨s, hs⟩ := Option.ne_none_iff_exists'.1 hy
    by_cases e : y = now
    · subst e; exact ⟨[], .nil _⟩
    · obtain ⟨t, ht, hf⟩ := F.on _ _ hs (H y s hs e)
      have h1 := F.fr _ _ ht
      have h2 := F.fr _ _ hs
      obtain ⟨l, hl⟩ := below_now F H n s.on (by omega) (by rw [ht]; simp)
      exact ⟨l ++ [s.on], by have := hl.snoc ht (by rw [hf]; omega); rw [hf] at this; exact this⟩
/-- And each has one kid at most. -/
theorem one_kid (F : Fam L next) (H : Full L now) {s s' : St} (h1 : look L y = some s) (h2 : look L z = some s') (e : s.fr = s'.fr) : y = z := by
  obtain ⟨l, hl⟩ := below_now F H _ y (Nat.le_refl _) (by rw [h1]; simp)
  obtain ⟨k, hk⟩ := below_now F H _ z (Nat.le_refl _) (by rw [h2]; simp)
  have key : ∀ {y z : Int} {s s' : St} {k : List Int}, look L y = some s → look L z = some s' → s.fr = s'.fr → Up L y k z → y = z := fun h1 h2 e h => by
    cases h with
    | nil => rfl
    | cons k1 k2 k3 =>
      rw [h1] at k1; cases k1
      have := (F.up_le k3).1
      have := F.fr _ _ h2
      omega
  rcases hl.split hk with ⟨k, q, _⟩ | ⟨k, q, _⟩
  · exact key h1 h2 e q
  · exact (key h2 h1 e.symm q).symm
theorem unroot_seq (x : Int) (s : St) : (unroot x s).seq = s.seq := by unfold unroot; split <;> rfl
theorem look_root (r : St) (M : List St) (hs : ((r :: M).map St.seq).Pairwise (· < ·)) (y : Int) : look (rootT (r :: M)) y = if y = r.seq then none else (look (r :: M) y).map (unroot r.seq) := by
  show look (M.map (unroot r.seq)) y = _
  rw [look_map (unroot_seq _), look_cons]
  by_cases q : y = r.seq
  · subst q
    rw [if_pos rfl]
    have : look M r.seq = none := by
      cases e : look M r.seq with
      | none => rfl
      | some s =>
        rw [List.map_cons, List.pairwise_cons] at hs
        have := hs.1 s.seq (List.mem_map.2 ⟨s, look_mem e, rfl⟩)
        rw [look_seq e] at this; omega
    rw [this]; rfl
  · rw [if_neg q, if_neg (fun e => q e.symm)]
/-- Which one is the first. -/
theorem root_first {r : St} {M : List St} (F : Fam (r :: M) next) (hs : ((r :: M).map St.seq).Pairwise (· < ·)) : look (r :: M) r.seq = some r ∧ r.fr = -1 ∧ ∀ y s, look (r :: M) y = some s → s.fr = -1 → y = r.seq := by
  have h0 : look (r :: M) r.seq = some r := by rw [look_cons, if_pos rfl]
  obtain ⟨r0, sr, h1, h2, h3⟩ := F.rt
  have key : ∀ y s, look (r :: M) y = some s → s.fr = -1 → y = r0 := fun y s h e => by
    obtain ⟨l, hl⟩ := h3 y (by rw [h]; simp)
    cases hl with
    | nil => rfl
    | cons k1 k2 _ => rw [h] at k1; cases k1; exact absurd e k2
  have e0 : r.seq = r0 := by
    obtain ⟨l, hl⟩ := h3 r.seq (by rw [h0]; simp)
    have hle := (F.up_le hl).1
    have hm := look_mem h1
    rcases List.mem_cons.1 hm with e | hm
    · rw [← look_seq h1, e]
    · rw [List.map_cons, List.pairwise_cons] at hs
      have := hs.1 sr.seq (List.mem_map.2 ⟨sr, hm, rfl⟩)
      rw [look_seq h1] at this; omega
  rw [← e0] at h1
  rw [h0] at h1; cases h1
  exact ⟨h0, h2, fun y s h e => by rw [e0]; exact key y s h e⟩
theorem inw_root {r : St} {M : List St} (I : Inw m) (hL : m.L = r :: M) (hM : M ≠ []) (H : Full m.L m.now) :
    Inw { m with L := rootT m.L } ∧ r.seq ≠ m.now ∧ ∃ b, look m.L r.on = some b ∧ b.fr = r.seq ∧ ∀ y, look (rootT m.L) y = if y = r.seq then none else (look m.L y).map fun s => if y = r.on then { s with fr := -1, by_ := [] } else s := by
  have F := I.inv.fam
  have hs := I.inv.sq
  have hp := I.pth
  have hk := I.onk
  have hnw := I.inv.nw
  rw [hL] at F hs hp hk hnw H
  rw [hL]
  obtain ⟨h0, hr, hone⟩ := root_first F hs
  have hlk := look_root r M hs
  -- the first is not the one that is
  have hrn : r.seq ≠ m.now := by
    intro e
    obtain ⟨c, M', rfl⟩ : ∃ c M', M = c :: M' := by cases M with | nil => exact absurd rfl hM | cons c M' => exact ⟨c, M', rfl⟩
    have hc : look (r :: c :: M') c.seq = some c := mem_look hs (by simp)
    have hrc : r.seq < c.seq := by rw [List.map_cons, List.pairwise_cons] at hs; exact hs.1 _ (by simp)
    obtain ⟨l, hl⟩ := below_now F H _ c.seq (Nat.le_refl _) (by rw [hc]; simp)
    have := (F.up_le hl).1
    omega
  obtain ⟨b, hb, hbf⟩ := F.on _ _ h0 (H _ _ h0 hrn)
  have h00 := F.fr _ _ h0
  have hkid : ∀ y s, look (r :: M) y = some s → s.fr = r.seq → y = r.on := fun y s h e => one_kid F H h hb (e.trans hbf.symm)
  have hbr : r.on ≠ r.seq := fun e => by have := (F.fr _ _ hb).2.1; rw [hbf] at this; omega
  -- what becomes of each
  have new : ∀ y s0, look (r :: M) y = some s0 → y ≠ r.seq → look (rootT (r :: M)) y = some (unroot r.seq s0) := fun y s0 h q => by rw [hlk, if_neg q, h]; rfl
  have old : ∀ y s', look (rootT (r :: M)) y = some s' → y ≠ r.seq ∧ ∃ s0, look (r :: M) y = some s0 ∧ s' = unroot r.seq s0 := fun y s' h => by
    rw [hlk] at h
    by_cases q : y = r.seq
    · rw [if_pos q] at h; cases h
    · rw [if_neg q] at h
      obtain ⟨s0, h1, h2⟩ := Option.map_eq_some_iff.1 h
      exact ⟨q, s0, h1, h2.symm⟩
  have un1 : ∀ s0 : St, s0.fr ≠ r.seq → unroot r.seq s0 = s0 := fun s0 e => by unfold unroot; rw [if_neg e]
  have unon : ∀ s0 : St, (unroot r.seq s0).on = s0.on := fun s0 => by unfold unroot; split <;> rfl
  have unb : unroot r.seq b = { b with fr := -1, by_ := [] } := by unfold unroot; rw [if_pos hbf]
  have nroot : ∀ y s, look (r :: M) y = some s → y ≠ r.seq → s.fr ≠ -1 := fun y s h q e => q (hone y s h e)
  have up : ∀ (n : Nat) (y : Int), y.toNat ≤ n → look (r :: M) y ≠ none → y ≠ r.seq → ∃ l, Up (rootT (r :: M)) y l r.on := by
    intro n
    induction n with
    | zero =>
      intro y hn hy q
      obtain ⟨s, hs'⟩ := Option.ne_none_iff_exists'.1 hy
      by_cases e : s.fr = r.seq
      · rw [hkid y s hs' e]; exact ⟨[], .nil _⟩
      · have := F.fr _ _ hs'
        have := nroot y s hs' q
        omega
    | succ n ih =>
      intro y hn hy q
      obtain ⟨s, hs'⟩ := Option.ne_none_iff_exists'.1 hy
      by_cases e : s.fr = r.seq
      · rw [hkid y s hs' e]; exact ⟨[], .nil _⟩
      · have h1 := F.fr _ _ hs'
        have h2 := nroot y s hs' q
        obtain ⟨l, hl⟩ := ih s.fr (by omega) (F.from_there hs' h2) e
        exact ⟨y :: l, .cons (by rw [new y s hs' q, un1 s e]) h2 hl⟩
  refine ⟨⟨⟨⟨fun y s' h => ?_, ?_, fun y s' h hon => ?_, fun y s' h => ?_⟩, ?_, ?_⟩, ?_, fun y s' h hon z s2 hz => ?_⟩, hrn, b, hb, hbf, fun y => ?_⟩
  · obtain ⟨q, s0, h1, rfl⟩ := old y s' h
    have h2 := F.fr _ _ h1
    unfold unroot
    split
    · exact ⟨by show (-1 : Int) ≤ -1; decide, by show (-1 : Int) < y; omega, h2.2.2⟩
    · exact h2
  · refine ⟨r.on, _, new _ _ hb hbr, by rw [unb], fun y hy => ?_⟩
    obtain ⟨s2, hs2⟩ := Option.ne_none_iff_exists'.1 hy
    obtain ⟨q, s0, h1, _⟩ := old y s2 hs2
    exact up _ y (Nat.le_refl _) (by rw [h1]; simp) q
  · obtain ⟨q, s0, h1, rfl⟩ := old y s' h
    rw [unon] at hon ⊢
    obtain ⟨t, ht, hft⟩ := F.on _ _ h1 hon
    have h2 := F.fr _ _ h1
    have hne : s0.on ≠ r.seq := fun e => by rw [e, h0] at ht; cases ht; omega
    have hnf : t.fr ≠ r.seq := by rw [hft]; exact q
    exact ⟨t, by rw [new _ _ ht hne, un1 t hnf], hft⟩
  · obtain ⟨q, s0, h1, rfl⟩ := old y s' h
    unfold unroot
    split
    · exact ⟨by simp, by simp⟩
    · exact F.few _ _ h1
  · show ((M.map (unroot r.seq)).map St.seq).Pairwise _
    have e1 : (M.map (unroot r.seq)).map St.seq = M.map St.seq := by
      rw [List.map_map]
      exact List.map_congr_left fun s _ => unroot_seq _ _
    rw [e1]
    rw [List.map_cons, List.pairwise_cons] at hs
    exact hs.2
  · obtain ⟨s0, h1⟩ := Option.ne_none_iff_exists'.1 hnw
    show look (rootT (r :: M)) m.now ≠ none
    rw [new _ _ h1 (fun e => hrn e.symm)]; simp
  · have key : ∀ c, Pth (r :: M) c → c ≠ r.seq → Pth (rootT (r :: M)) c := fun c h => by
      induction h with
      | root h1 h2 => intro q; exact absurd h2 (nroot _ _ h1 q)
      | step h1 h2 h3 h4 h5 ih =>
        rename_i x s s'
        intro q
        by_cases e : s.fr = r.seq
        · exact .root (new _ _ h1 q) (by unfold unroot; rw [if_pos e])
        · exact .step (by rw [new _ _ h1 q, un1 _ e]) h2 (new _ _ h3 e) (by rw [unon]; exact h4) (ih e)
    exact key _ hp (fun e => hrn e.symm)
  · obtain ⟨q, s0, h1, rfl⟩ := old y s' h
    obtain ⟨q2, s3, h3, rfl⟩ := old z s2 hz
    rw [unon] at hon
    have h4 := hk y s0 h1 hon z s3 h3
    have h5 := F.fr _ _ h1
    unfold unroot
    split
    · show (-1 : Int) ≠ y; omega
    · exact h4
  · rw [hlk]
    by_cases q : y = r.seq
    · rw [if_pos q, if_pos q]
    · rw [if_neg q, if_neg q]
      cases e : look (r :: M) y with
      | none => rfl
      | some s0 =>
        rw [Option.map_some, Option.map_some]
        unfold unroot
        by_cases p : s0.fr = r.seq
        · rw [if_pos p, if_pos (hkid y s0 e p)]
        · rw [if_neg p, if_neg]
          rintro rfl
          rw [hb] at e; cases e; exact p hbf
end
end Go.Proofs.YtaefeakmlgjonaaGreat
/- One goes: what is kept. -/
namespace Go.Proofs.YtaefeakmlgjonaaGreat
set_option linter.unusedVariables false
set_option linter.unusedSimpArgs false
section
variable {L : List St} {x : Int} {m : Tr} {s : St} {ds : List Dl}
theorem drop_len (hs : (L.map St.seq).Pairwise (· < ·)) (hx : look L x ≠ none) : (dropL L x).length + 1 = L.length := by
  induction L with
  | nil => exact absurd rfl hx
  | cons s L ih =>
    rw [List.map_cons, List.pairwise_cons] at hs
    unfold dropL at ih ⊢
    rw [List.filter_cons]
    by_cases q : s.seq = x
    · rw [if_neg (by simp [q])]
      have : L.filter (fun s => !decide (s.seq = x)) = L := List.filter_eq_self.2 fun a ha => by
        have := hs.1 a.seq (List.mem_map.2 ⟨a, ha, rfl⟩)
        simp; omega
      rw [this]; rfl
    · rw [if_pos (by simp [q])]
      rw [look_cons, if_neg q] at hx
      have := ih hs.2 hx
      simp only [List.length_cons]; omega
theorem cut_len {fr : Int} : (cutT L x fr).length = (dropL L x).length := by
  have := congrArg List.length (cut_seq L x fr)
  simpa using this
theorem root_len (L : List St) : (rootT L).length = L.length - 1 := by cases L with | nil => rfl | cons r M => simp [rootT]
theorem bare_some (h : m.L.find? (bareP m) = some s) : s ∈ m.L ∧ s.on = -1 ∧ s.seq ≠ m.now := by
  have h1 := List.find?_some h
  simp only [bareP, Bool.and_eq_true, Bool.not_eq_true', decide_eq_true_eq, decide_eq_false_iff_not] at h1
  exact ⟨List.mem_of_find?_eq_some h, h1.1, h1.2⟩
theorem bare_none (h : m.L.find? (bareP m) = none) : Full m.L m.now := fun y s hy hn ho => by
  have h1 := List.find?_eq_none.1 h s (look_mem hy)
  rw [← look_seq hy] at hn
  simp [bareP, ho, hn] at h1
theorem ev_some (h : m.L.find? (bareP m) = some s) : evT m = { m with L := cutT m.L s.seq s.fr } := by unfold evT; rw [h]
theorem ev_none (h : m.L.find? (bareP m) = none) : evT m = { m with L := rootT m.L } := by unfold evT; rw [h]
theorem cons_of (h2 : 2 ≤ m.L.length) : ∃ r M, m.L = r :: M ∧ M ≠ [] := by
  match e : m.L with
  | [] => rw [e] at h2; simp at h2
  | [a] => rw [e] at h2; simp at h2
  | a :: c :: M => exact ⟨a, c :: M, rfl, by simp⟩
theorem Inw.ev (I : Inw m) (h2 : 2 ≤ m.L.length) : Inw (evT m) := by
  cases h : m.L.find? (bareP m) with
  | some s =>
    obtain ⟨h1, h3, h4⟩ := bare_some h
    rw [ev_some h]
    exact inw_cut I (mem_look I.inv.sq h1) h3 h4
  | none =>
    obtain ⟨r, M, hL, hM⟩ := cons_of h2
    rw [ev_none h]
    exact (inw_root I hL hM (bare_none h)).1
theorem ev_len (I : Inw m) (h2 : 2 ≤ m.L.length) : (evT m).L.length + 1 = m.L.length := by
  cases h : m.L.find? (bareP m) with
  | some s =>
    obtain ⟨h1, h3, h4⟩ := bare_some h
    rw [ev_some h]
    show (cutT m.L s.seq s.fr).length + 1 = _
    rw [cut_len, drop_len I.inv.sq (by rw [mem_look I.inv.sq h1]; simp)]
  | none =>
    rw [ev_none h]
    show (rootT m.L).length + 1 = _
    rw [root_len]; omega
theorem ev_now (m : Tr) : (evT m).now = m.now ∧ (evT m).next = m.next ∧ (evT m).most = m.most := by
  unfold evT; split <;> exact ⟨rfl, rfl, rfl⟩
/-- What Add leaves, whatever room there is. -/
theorem addE_inw (I : Inw m) (hf : Few 2000 ds) (hmo : 1 ≤ m.most) : Inw (addE m ds) := by
  unfold addE
  split
  · exact (I.add hf).ev (by rename_i h; omega)
  · exact I.add hf
theorem addE_parts (m : Tr) (ds : List Dl) : (addE m ds).now = m.next ∧ (addE m ds).next = m.next + 1 ∧ (addE m ds).most = m.most := by
  unfold addE
  split
  · exact ev_now _
  · exact ⟨rfl, rfl, rfl⟩
theorem addE_len (I : Inw m) (hf : Few 2000 ds) (hmo : 1 ≤ m.most) (hl : (m.L.length : Int) ≤ m.most) : ((addE m ds).L.length : Int) ≤ m.most ∧ (addE m ds).L.length ≤ m.L.length + 1 := by
  have e0 : (addT m ds).L.length = m.L.length + 1 := by
    show (setOn m.L m.now m.next ++ [_]).length = _
    rw [List.length_append, setOn_len]; rfl
  unfold addE
  split
  · rename_i h
    have := ev_len (I.add hf) (by omega)
    omega
  · rename_i h
    omega
end
end Go.Proofs.YtaefeakmlgjonaaGreat
