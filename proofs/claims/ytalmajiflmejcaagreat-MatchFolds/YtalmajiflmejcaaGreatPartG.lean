/- Texts that the proof of the law stands on: Fr3. -/
import Derived.Test.YtalmajiflmejcaaGreatPartF
import Derived.Test.YtalmajiflmejcaaGreatPartD
/- The document's check of nodes: its walk. -/
namespace Go.Proofs.YtalmajiflmejcaaGreat
open Go.ChangeShapes Go.WideShapes Go.ChangeAt Go.RowKit
set_option linter.unusedVariables false
set_option linter.unusedSimpArgs false
section
variable {w0 : World} {wb sb : Nat} {v : Value} {L : List Nq} {root G cs : Int} {sn sn1 : List Bool} {w w1 : World}
theorem Wk.set (h : Wk w0 wb sb v L root G cs sn w) (n : Nat) : Wk w0 wb sb v L root G cs (sn.set n true) (w.setCell ⟨sb, n, none⟩ (.bool true)) := by
  refine ⟨h.pt, kp_new h.kp h.nw.2.1, h.nw, h.st.other (Ne.symm h.nw.2.2), ?_, by simpa using h.ln⟩
  have := h.sr.set n (.bool true)
  rw [List.map_set]
  exact this
theorem wlk_no {f : Nat} {k : Int} (h : hasB L k = false) : wlk L G (f + 1) k sn = (false, sn) := by rw [wlk, if_pos (.inl h)]
theorem wlk_seen {f n : Nat} (h : sn[n]? = some true) : wlk L G (f + 1) (n : Int) sn = (false, sn) := by rw [wlk, if_pos (.inr (by rw [Int.toNat_natCast, List.getD_eq_getElem?_getD, h]; rfl))]
theorem wlk_bad {f n : Nat} (h : hasB L (n : Int) = true) (h1 : sn[n]? = some false) (h2 : (kidsR (nodeAt L n) && numbR G (nodeAt L n) && timR (nodeAt L n)) = false) : wlk L G (f + 1) (n : Int) sn = (false, sn.set n true) := by
  rw [wlk, if_neg (by rw [Int.toNat_natCast, List.getD_eq_getElem?_getD, h1, h]; simp), if_pos h2, Int.toNat_natCast]
theorem wlk_on {f n : Nat} (h : hasB L (n : Int) = true) (h1 : sn[n]? = some false) (h2 : (kidsR (nodeAt L n) && numbR G (nodeAt L n) && timR (nodeAt L n)) = true) : wlk L G (f + 1) (n : Int) sn =
    if (wlkL L G f (nodeAt L n).kids (sn.set n true)).1 = false then (false, (wlkL L G f (nodeAt L n).kids (sn.set n true)).2)
    else (if (nodeAt L n).op = 7 then sngR L (nodeAt L ((nodeAt L n).kids.headD 0)) else true, (wlkL L G f (nodeAt L n).kids (sn.set n true)).2) := by
  rw [wlk, if_neg (by rw [Int.toNat_natCast, List.getD_eq_getElem?_getD, h1, h]; simp), if_neg (by rw [h2]; simp), Int.toNat_natCast]
theorem wlkL_one {f : Nat} {x : Int} (h : (wlkL L G f [x] sn).1 = true) : (wlk L G f x sn).1 = true := by
  rw [wlkL] at h
  split at h
  · cases h
  · rename_i q
    cases hq : (wlk L G f x sn).1 with
    | true => rfl
    | false => exact absurd hq q
set_option maxHeartbeats 16000000 in
set_option maxRecDepth 100000 in
theorem wsound_any (hL : L.length ≤ 1000000) : ∀ (f : Nat) {k : Int} {sn : List Bool} {w : World}, Wk w0 wb sb v L root G cs sn w → sn.count false < f → Calls Tryz.prog 115 #[.pointer (some ⟨wb, 0, none⟩), .int .i64 k] w fun e w' => e = .returned (.bool (wlk L G f k sn).1) ∧ Wk w0 wb sb v L root G cs (wlk L G f k sn).2 w' ∧ Fr (On sb) w w' := by
  intro f
  induction f with
  | zero => intro k sn w h hc; omega
  | succ f ih =>
    intro k sn w h hc
    have HIH : Hid (∀ {k : Int} {sn : List Bool} {w : World}, Wk w0 wb sb v L root G cs sn w → sn.count false < f → Calls Tryz.prog 115 #[.pointer (some ⟨wb, 0, none⟩), .int .i64 k] w fun e w' => e = .returned (.bool (wlk L G f k sn).1) ∧ Wk w0 wb sb v L root G cs (wlk L G f k sn).2 w' ∧ Fr (On sb) w w') := ih
    clear ih
    obtain ⟨R, hR⟩ : ∃ R, wlk L G (f + 1) k sn = R := ⟨_, rfl⟩
    rw [hR]
    have HR : Hid (R = wlk L G (f + 1) k sn) := hR.symm
    clear hR
    obtain ⟨va, vc, rfl, v1, v2, v3⟩ := h.pt
    clear v3
    have HH : Hid (Wk w0 wb sb (.slice va L.length vc) L root G cs sn w ∧ sn.count false < f + 1) := ⟨h, hc⟩
    have c0 : w.cell? ⟨wb, 0, none⟩ = some (.slice va L.length vc) := h.st.at rfl
    have c4 : w.cell? ⟨wb, 4, none⟩ = some (.slice (some ⟨sb, 0, none⟩) L.length L.length) := h.st.at rfl
    obtain ⟨N, hN⟩ : ∃ N, L.length = N := ⟨_, rfl⟩
    have HN : Hid (L.length = N) := hN
    have HLL : Hid (L.length ≤ 1000000) := hL
    rw [hN] at c0 c4 v1 hL
    unfold maxLen at v2
    clear h hc hN
    by_cases k0 : k < 0
    · have d0 : decide (k < 0) = true := decide_eq_true k0
      have HRX : Hid (R = (false, sn)) := by
        show _ = _
        rw [HR.out]
        exact wlk_no (decide_eq_false (by omega))
      go_enter Tryz.func115, Tryz.ntmps115
      go_wp2_with fail
      go_ret
      rw [HRX.out]
      exact ⟨rfl, HH.out.1, Fr.refl _ _⟩
    have d0 : decide (k < 0) = false := decide_eq_false k0
    by_cases k1 : (N : Int) ≤ k
    · have d1 : decide (k ≥ (N : Int)) = true := decide_eq_true k1
      have d1' : decide ((N : Int) ≤ k) = true := decide_eq_true k1
      have HRX : Hid (R = (false, sn)) := by
        show _ = _
        rw [HR.out]
        exact wlk_no (decide_eq_false (by have := HN.out; omega))
      go_enter Tryz.func115, Tryz.ntmps115
      go_wp2_with fail
      go_ret
      rw [HRX.out]
      exact ⟨rfl, HH.out.1, Fr.refl _ _⟩
    obtain ⟨n, rfl⟩ : ∃ n : Nat, k = (n : Int) := ⟨k.toNat, by omega⟩
    have hb : hasB L (n : Int) = true := decide_eq_true (by have := HN.out; omega)
    have HB : Hid (hasB L (n : Int) = true) := hb
    have d1 : decide ((n : Int) ≥ (N : Int)) = false := decide_eq_false (by omega)
    have d1' : decide ((N : Int) ≤ (n : Int)) = false := decide_eq_false (by omega)
    have d1'' : decide (N ≤ n) = false := decide_eq_false (by omega)
    have hn2 : (0 : Int) ≤ (n : Int) ∧ (n : Int) < (N : Int) := by omega
    have hnN : n < N := by omega
    obtain ⟨nb, hnb⟩ : ∃ nb, sn[n]? = some nb := ⟨_, List.getElem?_eq_getElem (by have := HH.out.1.ln; have := HN.out; omega)⟩
    have s0 : w.cell? ⟨sb, 0 + n, none⟩ = some (.bool nb) := by rw [Nat.zero_add]; exact HH.out.1.sr.at (by rw [List.getElem?_map, hnb]; rfl)
    have s0' : w.cell? ⟨sb, n, none⟩ = some (.bool nb) := by rw [Nat.zero_add] at s0; exact s0
    have f0 : w.frozen? ⟨sb, 0 + n, none⟩ = false := HH.out.1.sr.fz _
    have f0' : w.frozen? ⟨sb, n, none⟩ = false := HH.out.1.sr.fz _
    have HSN : Hid (sn[n]? = some nb) := hnb
    clear hnb k0 k1
    cases nb with
    | true =>
      have HRX : Hid (R = (false, sn)) := by
        show _ = _
        rw [HR.out]
        exact wlk_seen HSN.out
      clear hb
      go_enter Tryz.func115, Tryz.ntmps115
      go_wp2_with fail
      go_ret
      rw [HRX.out]
      exact ⟨rfl, HH.out.1, Fr.refl _ _⟩
    | false =>
    obtain ⟨n', b, o, vc', kv, hn', hn3, hv, hvc, hc, hks⟩ := HH.out.1.pt.at hb
    obtain rfl : n = n' := by omega
    injection hv with hv hv3 hv4
    subst hv
    clear hv3 hv4 hvc hn3 hb hn'
    obtain ⟨d, hd⟩ : ∃ d, nodeAt L (n : Int) = d := ⟨_, rfl⟩
    rw [hd] at hc hks
    obtain ⟨op, c, st, mn, mx, lz, nn, ks⟩ := d
    have HD : Hid (nodeAt L (n : Int) = ⟨op, c, st, mn, mx, lz, nn, ks⟩) := hd
    clear hd
    have hks0 := hks
    obtain ⟨ka, kc, rfl, k1, k2, hx⟩ := hks
    clear hx
    simp only at k1 hks0 hc
    obtain ⟨M, hM⟩ : ∃ M, ks.length = M := ⟨_, rfl⟩
    rw [hM] at hc hks0 k1
    have HKS : Hid (Ks w0 (.slice ka M kc) ks) := hks0
    have HM : Hid (ks.length = M) := hM
    clear hks0 hM
    unfold maxLen at k2
    obtain ⟨W1, hW1⟩ : ∃ W1, w.setCell ⟨sb, n, none⟩ (.bool true) = W1 := ⟨_, rfl⟩
    have H1 : Hid (Wk w0 wb sb (.slice (some ⟨b, o, none⟩) L.length vc) L root G cs (sn.set n true) W1 ∧ Fr (On sb) w W1) := by
      rw [← hW1]
      exact ⟨HH.out.1.set n, fr_set _ _ _ _⟩
    go_enter Tryz.func115, Tryz.ntmps115
    go_upto_region 4 with fail
    try rw [hW1]
    clear hW1 c0 c4 s0 s0' f0 f0' d1 d1' d1'' d0
    have c0 : W1.cell? ⟨wb, 0, none⟩ = some (.slice (some ⟨b, o, none⟩) N vc) := by have := H1.out.1.st.at (j := 0) rfl; rw [HN.out] at this; exact this
    have hc1 : ∀ j u, (Nq.cells ⟨op, c, st, mn, mx, lz, nn, ks⟩ (.slice ka M kc))[j]? = some u → W1.cell? ⟨b, o + n * 11 + j, none⟩ = some u := fun j u hu => kp_cell H1.out.1.kp (hc j u hu)
    have x0 := hc1 0 _ rfl
    have x1 := hc1 1 _ rfl
    have x2 := hc1 2 _ rfl
    have x3 := hc1 3 _ rfl
    have x4 := hc1 4 _ rfl
    have x5 := hc1 5 _ rfl
    have x6 := hc1 6 _ rfl
    have x7 := hc1 7 _ rfl
    have x8 := hc1 8 _ rfl
    have x9 := hc1 9 _ rfl
    have x10 := hc1 10 _ rfl
    simp only [Nat.add_zero] at x0 x1 x2 x3 x4 x5 x6 x7 x8 x9 x10
    clear hc hc1
    obtain ⟨W2, hW2⟩ : ∃ W2, W1.alloc (.cells #[.int .u8 op, .int .u8 c, .int .u64 st.a, .int .u64 st.b, .int .u64 st.c, .int .u64 st.d, .int .i64 mn, .int .i64 mx, .bool lz, .int .i64 nn, .slice ka M kc] 195) = W2 := ⟨_, rfl⟩
    obtain ⟨m, hm⟩ : ∃ m, W1.heap.size = m := ⟨_, rfl⟩
    have HMS : Hid (m ≠ sb) := by have := H1.out.1.sr.lt; show _ ≠ _; omega
    have H2 : Hid (Wk w0 wb sb (.slice (some ⟨b, o, none⟩) L.length vc) L root G cs (sn.set n true) W2 ∧ Fr (On sb) w W2 ∧ Lc 195 m (Nq.cells ⟨op, c, st, mn, mx, lz, nn, ks⟩ (.slice ka M kc)) W2) := by
      rw [← hW2, ← hm]
      exact ⟨H1.out.1.kpp (kp_alloc _ _), H1.out.2.trans (Fr.alloc _ _ _), nq_new W1 ⟨op, c, st, mn, mx, lz, nn, ks⟩ _⟩
    have HS2 : Hid (Lc 195 m (Nq.cells ⟨op, c, st, mn, mx, lz, nn, ks⟩ (.slice ka M kc)) W2.drew ∧ W2.drew.cell? ⟨wb, 2, none⟩ = some (.int .i64 G)) :=
      ⟨H2.out.2.2.kp (kp_drew _), (H2.out.1.kpp (kp_drew _)).st.at rfl⟩
    go_upto_region 5 with fail
    try rw [hW2]
    try rw [hm]
    clear hW2 hm x0 x1 x2 x3 x4 x5 x6 x7 x8 x9 x10 c0
    have b0 : W2.cell? ⟨m, 0, none⟩ = some (.int .u8 op) := H2.out.2.2.at rfl
    by_cases p7 : op = 7
    · subst p7
      go_upto_region 6 with fail
      clear b0
      obtain ⟨KB, hKB⟩ : ∃ KB, kidsR ⟨7, c, st, mn, mx, lz, nn, ks⟩ = KB := ⟨_, rfl⟩
      have HK : Hid (Calls Tryz.prog 146 #[.agg #[.int .u8 7, .int .u8 c, .int .u64 st.a, .int .u64 st.b, .int .u64 st.c, .int .u64 st.d, .int .i64 mn, .int .i64 mx, .bool lz, .int .i64 nn, .slice ka M kc]] W2.drew fun e w' => e = .returned (.bool KB) ∧ Kp W2.drew w') := by
        have := fkids_any (w := W2.drew) (d := ⟨7, c, st, mn, mx, lz, nn, ks⟩) (kv := .slice ka M kc) (HKS.out.kp (kp_trans H2.out.1.kp (kp_drew _)))
        rw [hKB] at this
        exact this
      have HKB : Hid (kidsR ⟨7, c, st, mn, mx, lz, nn, ks⟩ = KB) := hKB
      clear hKB
      cases KB with
      | false =>
        have HRX : Hid (R = (false, sn.set n true)) := by
          show _ = _
          rw [HR.out]
          exact wlk_bad HB.out HSN.out (by rw [HD.out]; rw [HKB.out]; rfl)
        refine wp_region_noPanic ?_
        refine wp_region_held_drew (S := fun x => Lc 195 m (Nq.cells ⟨7, c, st, mn, mx, lz, nn, ks⟩ (.slice ka M kc)) x ∧ x.cell? ⟨wb, 2, none⟩ = some (.int .i64 G)) (by kernel_rfl) (HS2.out) (fun hHeld => ?_)
        refine takeAt 0 (some 52) (.agg #[.int .u8 7, .int .u8 c, .int .u64 st.a, .int .u64 st.b, .int .u64 st.c, .int .u64 st.d, .int .i64 mn, .int .i64 mx, .bool lz, .int .i64 nn, .slice ka M kc]) rfl rfl (by kernel_rfl) (by kernel_rfl) (by kernel_rfl) (fun _ _ _ h => h) (Or.inl ⟨by rfl, ?_⟩) hHeld ?_
        · intro w hSw
          have x0 : w.cell? ⟨m, 0, none⟩ = _ := hSw.1.at rfl
          have x1 : w.cell? ⟨m, 1, none⟩ = _ := hSw.1.at rfl
          have x2 : w.cell? ⟨m, 2, none⟩ = _ := hSw.1.at rfl
          have x3 : w.cell? ⟨m, 3, none⟩ = _ := hSw.1.at rfl
          have x4 : w.cell? ⟨m, 4, none⟩ = _ := hSw.1.at rfl
          have x5 : w.cell? ⟨m, 5, none⟩ = _ := hSw.1.at rfl
          have x6 : w.cell? ⟨m, 6, none⟩ = _ := hSw.1.at rfl
          have x7 : w.cell? ⟨m, 7, none⟩ = _ := hSw.1.at rfl
          have x8 : w.cell? ⟨m, 8, none⟩ = _ := hSw.1.at rfl
          have x9 : w.cell? ⟨m, 9, none⟩ = _ := hSw.1.at rfl
          have x10 : w.cell? ⟨m, 10, none⟩ = _ := hSw.1.at rfl
          go_simp <;> with_reducible rfl
        try simp only [Act.put, List.setIfInBounds_toArray, List.set_cons_zero, List.set_cons_succ]
        refine callAt 1 53 146 (vals := #[.agg #[.int .u8 7, .int .u8 c, .int .u64 st.a, .int .u64 st.b, .int .u64 st.c, .int .u64 st.d, .int .i64 mn, .int .i64 mx, .bool lz, .int .i64 nn, .slice ka M kc]]) (by kernel_rfl) rfl rfl rfl rfl (by simp [Act.eval]) Tryz.func146 (by kernel_rfl) (by kernel_rfl) ?_
        refine Calls.mono HK.out ?_
        rintro e w3 ⟨rfl, q1⟩
        have H3 : Hid (Kp W2.drew w3) := q1
        clear q1
        refine ⟨_, rfl, ⟨HS2.out.1.kp H3.out, kp_cell H3.out HS2.out.2⟩, fun hHeld => ?_⟩
        try simp only [Act.put, List.setIfInBounds_toArray, List.set_cons_zero, List.set_cons_succ]
        refine takeAt 2 (some 54) ?_ rfl rfl (by kernel_rfl) (by kernel_rfl) (by kernel_rfl) (fun _ _ _ h => h) (Or.inl ⟨by rfl, ?_⟩) hHeld ?_
        rotate_left
        · intro w hSw
          go_simp <;> with_reducible rfl
        try simp only [Act.put, List.setIfInBounds_toArray, List.set_cons_zero, List.set_cons_succ]
        refine takeAt 3 (some 55) ?_ rfl rfl (by kernel_rfl) (by kernel_rfl) (by kernel_rfl) (fun _ _ _ h => h) (Or.inl ⟨by rfl, ?_⟩) hHeld ?_
        rotate_left
        · intro w hSw
          go_simp <;> with_reducible rfl
        try simp only [Act.put, List.setIfInBounds_toArray, List.set_cons_zero, List.set_cons_succ]
        refine takeAt 4 (some 56) undef rfl rfl (by kernel_rfl) (by kernel_rfl) (by kernel_rfl) (fun _ _ _ h => h) (Or.inr ⟨by rfl, rfl⟩) hHeld ?_
        try simp only [Act.put, List.setIfInBounds_toArray, List.set_cons_zero, List.set_cons_succ]
        refine takeAt 5 (some 57) undef rfl rfl (by kernel_rfl) (by kernel_rfl) (by kernel_rfl) (fun _ _ _ h => h) (Or.inr ⟨by rfl, rfl⟩) hHeld ?_
        try simp only [Act.put, List.setIfInBounds_toArray, List.set_cons_zero, List.set_cons_succ]
        refine takeAt 6 (some 58) undef rfl rfl (by kernel_rfl) (by kernel_rfl) (by kernel_rfl) (fun _ _ _ h => h) (Or.inr ⟨by rfl, rfl⟩) hHeld ?_
        try simp only [Act.put, List.setIfInBounds_toArray, List.set_cons_zero, List.set_cons_succ]
        refine takeAt 7 (some 59) undef rfl rfl (by kernel_rfl) (by kernel_rfl) (by kernel_rfl) (fun _ _ _ h => h) (Or.inr ⟨by rfl, rfl⟩) hHeld ?_
        try simp only [Act.put, List.setIfInBounds_toArray, List.set_cons_zero, List.set_cons_succ]
        refine takeAt 8 (some 60) undef rfl rfl (by kernel_rfl) (by kernel_rfl) (by kernel_rfl) (fun _ _ _ h => h) (Or.inr ⟨by rfl, rfl⟩) hHeld ?_
        try simp only [Act.put, List.setIfInBounds_toArray, List.set_cons_zero, List.set_cons_succ]
        refine takeAt 9 (some 61) undef rfl rfl (by kernel_rfl) (by kernel_rfl) (by kernel_rfl) (fun _ _ _ h => h) (Or.inr ⟨by rfl, rfl⟩) hHeld ?_
        try simp only [Act.put, List.setIfInBounds_toArray, List.set_cons_zero, List.set_cons_succ]
        refine takeAt 10 (some 62) undef rfl rfl (by kernel_rfl) (by kernel_rfl) (by kernel_rfl) (fun _ _ _ h => h) (Or.inr ⟨by rfl, rfl⟩) hHeld ?_
        try simp only [Act.put, List.setIfInBounds_toArray, List.set_cons_zero, List.set_cons_succ]
        refine takeAt 11 (some 63) undef rfl rfl (by kernel_rfl) (by kernel_rfl) (by kernel_rfl) (fun _ _ _ h => h) (Or.inr ⟨by rfl, rfl⟩) hHeld ?_
        try simp only [Act.put, List.setIfInBounds_toArray, List.set_cons_zero, List.set_cons_succ]
        refine takeAt 12 (some 64) undef rfl rfl (by kernel_rfl) (by kernel_rfl) (by kernel_rfl) (fun _ _ _ h => h) (Or.inr ⟨by rfl, rfl⟩) hHeld ?_
        try simp only [Act.put, List.setIfInBounds_toArray, List.set_cons_zero, List.set_cons_succ]
        refine takeAt 13 (some 65) undef rfl rfl (by kernel_rfl) (by kernel_rfl) (by kernel_rfl) (fun _ _ _ h => h) (Or.inr ⟨by rfl, rfl⟩) hHeld ?_
        try simp only [Act.put, List.setIfInBounds_toArray, List.set_cons_zero, List.set_cons_succ]
        refine takeAt 14 (some 66) undef rfl rfl (by kernel_rfl) (by kernel_rfl) (by kernel_rfl) (fun _ _ _ h => h) (Or.inr ⟨by rfl, rfl⟩) hHeld ?_
        try simp only [Act.put, List.setIfInBounds_toArray, List.set_cons_zero, List.set_cons_succ]
        refine takeAt 15 (some 67) undef rfl rfl (by kernel_rfl) (by kernel_rfl) (by kernel_rfl) (fun _ _ _ h => h) (Or.inr ⟨by rfl, rfl⟩) hHeld ?_
        try simp only [Act.put, List.setIfInBounds_toArray, List.set_cons_zero, List.set_cons_succ]
        refine takeAt 16 (some 68) undef rfl rfl (by kernel_rfl) (by kernel_rfl) (by kernel_rfl) (fun _ _ _ h => h) (Or.inr ⟨by rfl, rfl⟩) hHeld ?_
        try simp only [Act.put, List.setIfInBounds_toArray, List.set_cons_zero, List.set_cons_succ]
        refine takeAt 17 (some 69) undef rfl rfl (by kernel_rfl) (by kernel_rfl) (by kernel_rfl) (fun _ _ _ h => h) (Or.inr ⟨by rfl, rfl⟩) hHeld ?_
        try simp only [Act.put, List.setIfInBounds_toArray, List.set_cons_zero, List.set_cons_succ]
        refine takeAt 18 (some 70) undef rfl rfl (by kernel_rfl) (by kernel_rfl) (by kernel_rfl) (fun _ _ _ h => h) (Or.inr ⟨by rfl, rfl⟩) hHeld ?_
        try simp only [Act.put, List.setIfInBounds_toArray, List.set_cons_zero, List.set_cons_succ]
        refine takeAt 19 (some 71) undef rfl rfl (by kernel_rfl) (by kernel_rfl) (by kernel_rfl) (fun _ _ _ h => h) (Or.inr ⟨by rfl, rfl⟩) hHeld ?_
        try simp only [Act.put, List.setIfInBounds_toArray, List.set_cons_zero, List.set_cons_succ]
        refine takeAt 20 (some 72) ?_ rfl rfl (by kernel_rfl) (by kernel_rfl) (by kernel_rfl) (fun _ _ _ h => h) (Or.inl ⟨by rfl, ?_⟩) hHeld ?_
        rotate_left
        · intro w hSw
          go_simp <;> with_reducible rfl
        try simp only [Act.put, List.setIfInBounds_toArray, List.set_cons_zero, List.set_cons_succ]
        refine wpAnyH_done (by kernel_rfl) ?_ _
        refine NoPanic.normal ?_
        have HW3 : Hid (Wk w0 wb sb (.slice (some ⟨b, o, none⟩) L.length vc) L root G cs (sn.set n true) w3 ∧ Fr (On sb) w w3 ) := by
          have k3 := kp_trans (kp_drew W2) H3.out
          exact ⟨H2.out.1.kpp k3, H2.out.2.1.trans (Fr.of_below k3)⟩
        go_wp2_with fail
        go_ret
        rw [HRX.out]
        exact ⟨rfl, HW3.out.1, HW3.out.2⟩
      | true =>
        refine wp_region_noPanic ?_
        refine wp_region_held_drew (S := fun x => Lc 195 m (Nq.cells ⟨7, c, st, mn, mx, lz, nn, ks⟩ (.slice ka M kc)) x ∧ x.cell? ⟨wb, 2, none⟩ = some (.int .i64 G)) (by kernel_rfl) (HS2.out) (fun hHeld => ?_)
        refine takeAt 0 (some 52) (.agg #[.int .u8 7, .int .u8 c, .int .u64 st.a, .int .u64 st.b, .int .u64 st.c, .int .u64 st.d, .int .i64 mn, .int .i64 mx, .bool lz, .int .i64 nn, .slice ka M kc]) rfl rfl (by kernel_rfl) (by kernel_rfl) (by kernel_rfl) (fun _ _ _ h => h) (Or.inl ⟨by rfl, ?_⟩) hHeld ?_
        · intro w hSw
          have x0 : w.cell? ⟨m, 0, none⟩ = _ := hSw.1.at rfl
          have x1 : w.cell? ⟨m, 1, none⟩ = _ := hSw.1.at rfl
          have x2 : w.cell? ⟨m, 2, none⟩ = _ := hSw.1.at rfl
          have x3 : w.cell? ⟨m, 3, none⟩ = _ := hSw.1.at rfl
          have x4 : w.cell? ⟨m, 4, none⟩ = _ := hSw.1.at rfl
          have x5 : w.cell? ⟨m, 5, none⟩ = _ := hSw.1.at rfl
          have x6 : w.cell? ⟨m, 6, none⟩ = _ := hSw.1.at rfl
          have x7 : w.cell? ⟨m, 7, none⟩ = _ := hSw.1.at rfl
          have x8 : w.cell? ⟨m, 8, none⟩ = _ := hSw.1.at rfl
          have x9 : w.cell? ⟨m, 9, none⟩ = _ := hSw.1.at rfl
          have x10 : w.cell? ⟨m, 10, none⟩ = _ := hSw.1.at rfl
          go_simp <;> with_reducible rfl
        try simp only [Act.put, List.setIfInBounds_toArray, List.set_cons_zero, List.set_cons_succ]
        refine callAt 1 53 146 (vals := #[.agg #[.int .u8 7, .int .u8 c, .int .u64 st.a, .int .u64 st.b, .int .u64 st.c, .int .u64 st.d, .int .i64 mn, .int .i64 mx, .bool lz, .int .i64 nn, .slice ka M kc]]) (by kernel_rfl) rfl rfl rfl rfl (by simp [Act.eval]) Tryz.func146 (by kernel_rfl) (by kernel_rfl) ?_
        refine Calls.mono HK.out ?_
        rintro e w3 ⟨rfl, q1⟩
        have H3 : Hid (Kp W2.drew w3) := q1
        clear q1
        refine ⟨_, rfl, ⟨HS2.out.1.kp H3.out, kp_cell H3.out HS2.out.2⟩, fun hHeld => ?_⟩
        try simp only [Act.put, List.setIfInBounds_toArray, List.set_cons_zero, List.set_cons_succ]
        refine takeAt 2 (some 54) ?_ rfl rfl (by kernel_rfl) (by kernel_rfl) (by kernel_rfl) (fun _ _ _ h => h) (Or.inl ⟨by rfl, ?_⟩) hHeld ?_
        rotate_left
        · intro w hSw
          go_simp <;> with_reducible rfl
        try simp only [Act.put, List.setIfInBounds_toArray, List.set_cons_zero, List.set_cons_succ]
        refine takeAt 3 (some 55) ?_ rfl rfl (by kernel_rfl) (by kernel_rfl) (by kernel_rfl) (fun _ _ _ h => h) (Or.inl ⟨by rfl, ?_⟩) hHeld ?_
        rotate_left
        · intro w hSw
          go_simp <;> with_reducible rfl
        try simp only [Act.put, List.setIfInBounds_toArray, List.set_cons_zero, List.set_cons_succ]
        refine takeAt 4 (some 56) ?_ rfl rfl (by kernel_rfl) (by kernel_rfl) (by kernel_rfl) (fun _ _ _ h => h) (Or.inl ⟨by rfl, ?_⟩) hHeld ?_
        rotate_left
        · intro w hSw
          go_simp <;> with_reducible rfl
        try simp only [Act.put, List.setIfInBounds_toArray, List.set_cons_zero, List.set_cons_succ]
        refine takeAt 5 (some 57) ?_ rfl rfl (by kernel_rfl) (by kernel_rfl) (by kernel_rfl) (fun _ _ _ h => h) (Or.inl ⟨by rfl, ?_⟩) hHeld ?_
        rotate_left
        · intro w hSw
          go_simp <;> with_reducible rfl
        try simp only [Act.put, List.setIfInBounds_toArray, List.set_cons_zero, List.set_cons_succ]
        refine takeAt 6 (some 58) undef rfl rfl (by kernel_rfl) (by kernel_rfl) (by kernel_rfl) (fun _ _ _ h => h) (Or.inr ⟨by rfl, rfl⟩) hHeld ?_
        try simp only [Act.put, List.setIfInBounds_toArray, List.set_cons_zero, List.set_cons_succ]
        refine takeAt 7 (some 59) undef rfl rfl (by kernel_rfl) (by kernel_rfl) (by kernel_rfl) (fun _ _ _ h => h) (Or.inr ⟨by rfl, rfl⟩) hHeld ?_
        try simp only [Act.put, List.setIfInBounds_toArray, List.set_cons_zero, List.set_cons_succ]
        refine takeAt 8 (some 60) undef rfl rfl (by kernel_rfl) (by kernel_rfl) (by kernel_rfl) (fun _ _ _ h => h) (Or.inr ⟨by rfl, rfl⟩) hHeld ?_
        try simp only [Act.put, List.setIfInBounds_toArray, List.set_cons_zero, List.set_cons_succ]
        refine takeAt 9 (some 61) undef rfl rfl (by kernel_rfl) (by kernel_rfl) (by kernel_rfl) (fun _ _ _ h => h) (Or.inr ⟨by rfl, rfl⟩) hHeld ?_
        try simp only [Act.put, List.setIfInBounds_toArray, List.set_cons_zero, List.set_cons_succ]
        refine takeAt 10 (some 62) undef rfl rfl (by kernel_rfl) (by kernel_rfl) (by kernel_rfl) (fun _ _ _ h => h) (Or.inr ⟨by rfl, rfl⟩) hHeld ?_
        try simp only [Act.put, List.setIfInBounds_toArray, List.set_cons_zero, List.set_cons_succ]
        refine takeAt 11 (some 63) undef rfl rfl (by kernel_rfl) (by kernel_rfl) (by kernel_rfl) (fun _ _ _ h => h) (Or.inr ⟨by rfl, rfl⟩) hHeld ?_
        try simp only [Act.put, List.setIfInBounds_toArray, List.set_cons_zero, List.set_cons_succ]
        refine takeAt 12 (some 64) undef rfl rfl (by kernel_rfl) (by kernel_rfl) (by kernel_rfl) (fun _ _ _ h => h) (Or.inr ⟨by rfl, rfl⟩) hHeld ?_
        try simp only [Act.put, List.setIfInBounds_toArray, List.set_cons_zero, List.set_cons_succ]
        refine takeAt 13 (some 65) undef rfl rfl (by kernel_rfl) (by kernel_rfl) (by kernel_rfl) (fun _ _ _ h => h) (Or.inr ⟨by rfl, rfl⟩) hHeld ?_
        try simp only [Act.put, List.setIfInBounds_toArray, List.set_cons_zero, List.set_cons_succ]
        refine takeAt 14 (some 66) undef rfl rfl (by kernel_rfl) (by kernel_rfl) (by kernel_rfl) (fun _ _ _ h => h) (Or.inr ⟨by rfl, rfl⟩) hHeld ?_
        try simp only [Act.put, List.setIfInBounds_toArray, List.set_cons_zero, List.set_cons_succ]
        refine takeAt 15 (some 67) undef rfl rfl (by kernel_rfl) (by kernel_rfl) (by kernel_rfl) (fun _ _ _ h => h) (Or.inr ⟨by rfl, rfl⟩) hHeld ?_
        try simp only [Act.put, List.setIfInBounds_toArray, List.set_cons_zero, List.set_cons_succ]
        refine takeAt 16 (some 68) undef rfl rfl (by kernel_rfl) (by kernel_rfl) (by kernel_rfl) (fun _ _ _ h => h) (Or.inr ⟨by rfl, rfl⟩) hHeld ?_
        try simp only [Act.put, List.setIfInBounds_toArray, List.set_cons_zero, List.set_cons_succ]
        refine takeAt 17 (some 69) undef rfl rfl (by kernel_rfl) (by kernel_rfl) (by kernel_rfl) (fun _ _ _ h => h) (Or.inr ⟨by rfl, rfl⟩) hHeld ?_
        try simp only [Act.put, List.setIfInBounds_toArray, List.set_cons_zero, List.set_cons_succ]
        refine takeAt 18 (some 70) undef rfl rfl (by kernel_rfl) (by kernel_rfl) (by kernel_rfl) (fun _ _ _ h => h) (Or.inr ⟨by rfl, rfl⟩) hHeld ?_
        try simp only [Act.put, List.setIfInBounds_toArray, List.set_cons_zero, List.set_cons_succ]
        refine takeAt 19 (some 71) ?_ rfl rfl (by kernel_rfl) (by kernel_rfl) (by kernel_rfl) (fun _ _ _ h => h) (Or.inl ⟨by rfl, ?_⟩) hHeld ?_
        rotate_left
        · intro w hSw
          go_simp <;> with_reducible rfl
        try simp only [Act.put, List.setIfInBounds_toArray, List.set_cons_zero, List.set_cons_succ]
        refine takeAt 20 (some 72) ?_ rfl rfl (by kernel_rfl) (by kernel_rfl) (by kernel_rfl) (fun _ _ _ h => h) (Or.inl ⟨by rfl, ?_⟩) hHeld ?_
        rotate_left
        · intro w hSw
          go_simp <;> with_reducible rfl
        try simp only [Act.put, List.setIfInBounds_toArray, List.set_cons_zero, List.set_cons_succ]
        refine wpAnyH_done (by kernel_rfl) ?_ _
        refine NoPanic.normal ?_
        have HW3 : Hid (Wk w0 wb sb (.slice (some ⟨b, o, none⟩) L.length vc) L root G cs (sn.set n true) w3 ∧ Fr (On sb) w w3 ∧ Lc 195 m (Nq.cells ⟨7, c, st, mn, mx, lz, nn, ks⟩ (.slice ka M kc)) w3) := by
          have k3 := kp_trans (kp_drew W2) H3.out
          exact ⟨H2.out.1.kpp k3, H2.out.2.1.trans (Fr.of_below k3), H2.out.2.2.kp k3⟩
        have b0 : w3.cell? ⟨m, 0, none⟩ = some (.int .u8 7) := HW3.out.2.2.at rfl
        have b6 : w3.cell? ⟨m, 6, none⟩ = some (.int .i64 mn) := HW3.out.2.2.at rfl
        have b7 : w3.cell? ⟨m, 7, none⟩ = some (.int .i64 mx) := HW3.out.2.2.at rfl
        by_cases t1 : mn < 0
        · have g1 : decide (mn < 0) = true := decide_eq_true t1
          have HRX : Hid (R = (false, sn.set n true)) := by
            show _ = _
            rw [HR.out]
            exact wlk_bad HB.out HSN.out (by rw [HD.out]; rw [show timR ⟨7, c, st, mn, mx, lz, nn, ks⟩ = false by unfold timR; rw [if_pos rfl]; exact decide_eq_false (by simp only; omega)]; simp)
          go_wp2_with fail
          go_ret
          rw [HRX.out]
          exact ⟨rfl, HW3.out.1, HW3.out.2.1⟩
        have g1 : decide (mn < 0) = false := decide_eq_false t1
        by_cases t2 : 60 < mn
        · have g2 : decide (mn > 60) = true := decide_eq_true t2
          have g2' : decide (60 < mn) = true := decide_eq_true t2
          have HRX : Hid (R = (false, sn.set n true)) := by
            show _ = _
            rw [HR.out]
            exact wlk_bad HB.out HSN.out (by rw [HD.out]; rw [show timR ⟨7, c, st, mn, mx, lz, nn, ks⟩ = false by unfold timR; rw [if_pos rfl]; exact decide_eq_false (by simp only; omega)]; simp)
          go_wp2_with fail
          go_ret
          rw [HRX.out]
          exact ⟨rfl, HW3.out.1, HW3.out.2.1⟩
        have g2 : decide (mn > 60) = false := decide_eq_false t2
        have g2' : decide (60 < mn) = false := decide_eq_false t2
        by_cases t3 : 60 < mx
        · have g3 : decide (mx > 60) = true := decide_eq_true t3
          have g3' : decide (60 < mx) = true := decide_eq_true t3
          have HRX : Hid (R = (false, sn.set n true)) := by
            show _ = _
            rw [HR.out]
            exact wlk_bad HB.out HSN.out (by rw [HD.out]; rw [show timR ⟨7, c, st, mn, mx, lz, nn, ks⟩ = false by unfold timR; rw [if_pos rfl]; exact decide_eq_false (by simp only; omega)]; simp)
          go_wp2_with fail
          go_ret
          rw [HRX.out]
          exact ⟨rfl, HW3.out.1, HW3.out.2.1⟩
        have g3 : decide (mx > 60) = false := decide_eq_false t3
        have g3' : decide (60 < mx) = false := decide_eq_false t3
        by_cases t4 : 0 ≤ mx
        · have g4 : decide (mx ≥ 0) = true := decide_eq_true t4
          have g4' : decide (0 ≤ mx) = true := decide_eq_true t4
          by_cases t5 : mx < mn
          · have g5 : decide (mx < mn) = true := decide_eq_true t5
            have HRX : Hid (R = (false, sn.set n true)) := by
              show _ = _
              rw [HR.out]
              exact wlk_bad HB.out HSN.out (by rw [HD.out]; rw [show timR ⟨7, c, st, mn, mx, lz, nn, ks⟩ = false by unfold timR; rw [if_pos rfl]; exact decide_eq_false (by simp only; omega)]; simp)
            go_wp2_with fail
            go_ret
            rw [HRX.out]
            exact ⟨rfl, HW3.out.1, HW3.out.2.1⟩
          · have g5 : decide (mx < mn) = false := decide_eq_false t5
            have HON : Hid (R = if (wlkL L G f ks (sn.set n true)).1 = false then (false, (wlkL L G f ks (sn.set n true)).2) else (if 7 = 7 then sngR L (nodeAt L (ks.headD 0)) else true, (wlkL L G f ks (sn.set n true)).2)) := by
              show _ = _
              have := wlk_on (G := G) (f := f) HB.out HSN.out (by rw [HD.out]; rw [HKB.out, show numbR G ⟨7, c, st, mn, mx, lz, nn, ks⟩ = true from rfl, show timR ⟨7, c, st, mn, mx, lz, nn, ks⟩ = true by unfold timR; rw [if_pos rfl]; exact decide_eq_true (by simp only; omega)]; rfl)
              rw [HD.out] at this
              rw [HR.out]
              exact this
            have HC : Hid ((sn.set n true).count false < f) := by have := cnt_set HSN.out; have := HH.out.2; show _ < _; omega
            go_wp2_with fail
            clear b0 b6 b7
            go_loopw [7] (fun v7 wr => ∃ i : Nat, i ≤ M ∧ v7 = .int .i64 i ∧ Hid (∃ snr, Wk w0 wb sb (.slice (some ⟨b, o, none⟩) L.length vc) L root G cs snr wr ∧ Fr (On sb) w wr ∧ Lc 195 m (Nq.cells ⟨7, c, st, mn, mx, lz, nn, ks⟩ (.slice ka M kc)) wr ∧ snr.count false < f ∧ wlkL L G f ks (sn.set n true) = wlkL L G f (ks.drop i) snr)) (fun v7 _ => M - (intOf v7).toNat)
            case atStart => exact ⟨0, Nat.zero_le _, rfl, sn.set n true, HW3.out.1, HW3.out.2.1, HW3.out.2.2, HC.out, rfl⟩
            case round =>
              obtain ⟨i, hi, rfl, snr, hq⟩ := hrel
              have HQ : Hid (Wk w0 wb sb (.slice (some ⟨b, o, none⟩) L.length vc) L root G cs snr wr ∧ Fr (On sb) w wr ∧ Lc 195 m (Nq.cells ⟨7, c, st, mn, mx, lz, nn, ks⟩ (.slice ka M kc)) wr ∧ snr.count false < f ∧ wlkL L G f ks (sn.set n true) = wlkL L G f (ks.drop i) snr) := hq
              clear hq
              have b0 : wr.cell? ⟨m, 0, none⟩ = some (.int .u8 7) := HQ.out.2.2.1.at rfl
              have b10 : wr.cell? ⟨m, 10, none⟩ = some (.slice ka M kc) := HQ.out.2.2.1.at rfl
              by_cases hlt : i < M
              · have dl : decide ((i : Int) < (M : Int)) = true := decide_eq_true (by omega)
                have dn : decide (i < M) = true := decide_eq_true hlt
                obtain ⟨x, hx⟩ : ∃ x, ks[i]? = some x := ⟨_, List.getElem?_eq_getElem (by have := HM.out; omega)⟩
                obtain ⟨kb, ko, rfl, ck⟩ := (HKS.out.kp HQ.out.1.kp).cell hx
                have hdr : ks.drop i = x :: ks.drop (i + 1) := by
                  obtain ⟨hl, he⟩ := List.getElem?_eq_some_iff.1 hx
                  rw [← he]; exact List.drop_eq_getElem_cons hl
                obtain ⟨⟨b1, sn2⟩, hw⟩ : ∃ X, wlk L G f x snr = X := ⟨_, rfl⟩
                have HCL : Hid (Calls Tryz.prog 115 #[.pointer (some ⟨wb, 0, none⟩), .int .i64 x] wr fun e w' => e = .returned (.bool b1) ∧ Wk w0 wb sb (.slice (some ⟨b, o, none⟩) L.length vc) L root G cs sn2 w' ∧ Fr (On sb) wr w') := by
                  have := HIH.out (k := x) HQ.out.1 HQ.out.2.2.2.1
                  rw [hw] at this
                  exact this
                have HE : Hid ((wlkL L G f ks (sn.set n true) = if b1 = false then (false, sn2) else wlkL L G f (ks.drop (i + 1)) sn2) ∧ sn2.count false < f) := by
                  refine ⟨?_, ?_⟩
                  · rw [HQ.out.2.2.2.2, hdr, wlkL, hw]
                  · have := ((wlk_keeps (L := L) (G := G) f).1 x snr).2
                    rw [hw] at this
                    have := HQ.out.2.2.2.1
                    simp only at *
                    omega
                clear hw hdr hx
                cases b1 with
                | false =>
                  have HRX : Hid (R = (false, sn2)) := by
                    show _ = _
                    rw [HON.out, HE.out.1]; rfl
                  go_wp2_with fail
                  refine Calls.mono HCL.out ?_
                  rintro e w5 ⟨rfl, q1, q2⟩
                  have H5 : Hid (Wk w0 wb sb (.slice (some ⟨b, o, none⟩) L.length vc) L root G cs sn2 w5 ∧ Fr (On sb) wr w5) := ⟨q1, q2⟩
                  clear q1 q2 b0 b10 ck
                  go_wp2_with fail
                  go_ret
                  rw [HRX.out]
                  exact ⟨rfl, H5.out.1, HQ.out.2.1.trans H5.out.2⟩
                | true =>
                  go_wp2_with fail
                  refine Calls.mono HCL.out ?_
                  rintro e w5 ⟨rfl, q1, q2⟩
                  have H5 : Hid (Wk w0 wb sb (.slice (some ⟨b, o, none⟩) L.length vc) L root G cs sn2 w5 ∧ Fr (On sb) wr w5) := ⟨q1, q2⟩
                  clear q1 q2 b0 b10 ck
                  go_wp2_with fail
                  go_roundw
                  case rel => exact ⟨i + 1, by omega, by go_num, sn2, H5.out.1, HQ.out.2.1.trans H5.out.2, HQ.out.2.2.1.fr H5.out.2 HMS.out, HE.out.2, HE.out.1⟩
                  case measure => simp only [intOf]; omega
              · have e1 : M = 1 := by have := HKB.out; unfold kidsR at this; rw [if_pos (.inl rfl), beq_iff_eq] at this; rw [← HM.out]; exact this
                obtain rfl : i = M := by omega
                have dl : decide ((i : Int) < (i : Int)) = false := by simp
                subst e1
                obtain ⟨x, hx⟩ : ∃ x, ks = [x] := by
                  have h1 := HM.out
                  cases hk : ks with
                  | nil => rw [hk] at h1; cases h1
                  | cons x r =>
                    rw [hk] at h1
                    cases r with
                    | nil => exact ⟨x, rfl⟩
                    | cons y r => simp at h1
                have HX : Hid (ks = [x]) := hx
                have hx0 : ks[0]? = some x := by rw [hx]; rfl
                obtain ⟨kb, ko, rfl, ck⟩ := (HKS.out.kp HQ.out.1.kp).cell hx0
                rw [Nat.add_zero] at ck
                clear hx hx0
                have HWL : Hid (wlkL L G f ks (sn.set n true) = (true, snr)) := by
                  have e := HQ.out.2.2.2.2
                  rw [List.drop_eq_nil_of_le (Nat.le_of_eq HM.out), wlkL] at e
                  exact e
                have HSG : Hid (Calls Tryz.prog 147 #[.pointer (some ⟨wb, 0, none⟩), .int .i64 x] wr fun e w' => e = .returned (.bool (sngR L (nodeAt L x))) ∧ Kp wr w') := by
                  have h1 : (wlkL L G f ks (sn.set n true)).1 = true := by rw [HWL.out]
                  rw [HX.out] at h1
                  have h2 := wlkL_one h1
                  exact fsingle_any HQ.out.1 (wlk_has h2) (fun _ => wlk_kids h2) HLL.out
                have HRX : Hid (R = (sngR L (nodeAt L x), snr)) := by
                  show _ = _
                  rw [HON.out, HWL.out, if_neg (by simp), if_pos (by trivial), HX.out]; rfl
                generalize sngR L (nodeAt L x) = SB at HSG HRX
                go_wp2_with fail
                refine Calls.mono HSG.out ?_
                rintro e w5 ⟨rfl, q1⟩
                have H5 : Hid (Kp wr w5) := q1
                clear q1 b0 b10 ck
                go_wp2_with fail
                go_ret
                rw [HRX.out]
                exact ⟨rfl, HQ.out.1.kpp H5.out, HQ.out.2.1.trans (Fr.of_below H5.out)⟩
        · have g4 : decide (mx ≥ 0) = false := decide_eq_false t4
          have g4' : decide (0 ≤ mx) = false := decide_eq_false t4
          have HON : Hid (R = if (wlkL L G f ks (sn.set n true)).1 = false then (false, (wlkL L G f ks (sn.set n true)).2) else (if 7 = 7 then sngR L (nodeAt L (ks.headD 0)) else true, (wlkL L G f ks (sn.set n true)).2)) := by
            show _ = _
            have := wlk_on (G := G) (f := f) HB.out HSN.out (by rw [HD.out]; rw [HKB.out, show numbR G ⟨7, c, st, mn, mx, lz, nn, ks⟩ = true from rfl, show timR ⟨7, c, st, mn, mx, lz, nn, ks⟩ = true by unfold timR; rw [if_pos rfl]; exact decide_eq_true (by simp only; omega)]; rfl)
            rw [HD.out] at this
            rw [HR.out]
            exact this
          have HC : Hid ((sn.set n true).count false < f) := by have := cnt_set HSN.out; have := HH.out.2; show _ < _; omega
          go_wp2_with fail
          clear b0 b6 b7
          go_loopw [7] (fun v7 wr => ∃ i : Nat, i ≤ M ∧ v7 = .int .i64 i ∧ Hid (∃ snr, Wk w0 wb sb (.slice (some ⟨b, o, none⟩) L.length vc) L root G cs snr wr ∧ Fr (On sb) w wr ∧ Lc 195 m (Nq.cells ⟨7, c, st, mn, mx, lz, nn, ks⟩ (.slice ka M kc)) wr ∧ snr.count false < f ∧ wlkL L G f ks (sn.set n true) = wlkL L G f (ks.drop i) snr)) (fun v7 _ => M - (intOf v7).toNat)
          case atStart => exact ⟨0, Nat.zero_le _, rfl, sn.set n true, HW3.out.1, HW3.out.2.1, HW3.out.2.2, HC.out, rfl⟩
          case round =>
            obtain ⟨i, hi, rfl, snr, hq⟩ := hrel
            have HQ : Hid (Wk w0 wb sb (.slice (some ⟨b, o, none⟩) L.length vc) L root G cs snr wr ∧ Fr (On sb) w wr ∧ Lc 195 m (Nq.cells ⟨7, c, st, mn, mx, lz, nn, ks⟩ (.slice ka M kc)) wr ∧ snr.count false < f ∧ wlkL L G f ks (sn.set n true) = wlkL L G f (ks.drop i) snr) := hq
            clear hq
            have b0 : wr.cell? ⟨m, 0, none⟩ = some (.int .u8 7) := HQ.out.2.2.1.at rfl
            have b10 : wr.cell? ⟨m, 10, none⟩ = some (.slice ka M kc) := HQ.out.2.2.1.at rfl
            by_cases hlt : i < M
            · have dl : decide ((i : Int) < (M : Int)) = true := decide_eq_true (by omega)
              have dn : decide (i < M) = true := decide_eq_true hlt
              obtain ⟨x, hx⟩ : ∃ x, ks[i]? = some x := ⟨_, List.getElem?_eq_getElem (by have := HM.out; omega)⟩
              obtain ⟨kb, ko, rfl, ck⟩ := (HKS.out.kp HQ.out.1.kp).cell hx
              have hdr : ks.drop i = x :: ks.drop (i + 1) := by
                obtain ⟨hl, he⟩ := List.getElem?_eq_some_iff.1 hx
                rw [← he]; exact List.drop_eq_getElem_cons hl
              obtain ⟨⟨b1, sn2⟩, hw⟩ : ∃ X, wlk L G f x snr = X := ⟨_, rfl⟩
              have HCL : Hid (Calls Tryz.prog 115 #[.pointer (some ⟨wb, 0, none⟩), .int .i64 x] wr fun e w' => e = .returned (.bool b1) ∧ Wk w0 wb sb (.slice (some ⟨b, o, none⟩) L.length vc) L root G cs sn2 w' ∧ Fr (On sb) wr w') := by
                have := HIH.out (k := x) HQ.out.1 HQ.out.2.2.2.1
                rw [hw] at this
                exact this
              have HE : Hid ((wlkL L G f ks (sn.set n true) = if b1 = false then (false, sn2) else wlkL L G f (ks.drop (i + 1)) sn2) ∧ sn2.count false < f) := by
                refine ⟨?_, ?_⟩
                · rw [HQ.out.2.2.2.2, hdr, wlkL, hw]
                · have := ((wlk_keeps (L := L) (G := G) f).1 x snr).2
                  rw [hw] at this
                  have := HQ.out.2.2.2.1
                  simp only at *
                  omega
              clear hw hdr hx
              cases b1 with
              | false =>
                have HRX : Hid (R = (false, sn2)) := by
                  show _ = _
                  rw [HON.out, HE.out.1]; rfl
                go_wp2_with fail
                refine Calls.mono HCL.out ?_
                rintro e w5 ⟨rfl, q1, q2⟩
                have H5 : Hid (Wk w0 wb sb (.slice (some ⟨b, o, none⟩) L.length vc) L root G cs sn2 w5 ∧ Fr (On sb) wr w5) := ⟨q1, q2⟩
                clear q1 q2 b0 b10 ck
                go_wp2_with fail
                go_ret
                rw [HRX.out]
                exact ⟨rfl, H5.out.1, HQ.out.2.1.trans H5.out.2⟩
              | true =>
                go_wp2_with fail
                refine Calls.mono HCL.out ?_
                rintro e w5 ⟨rfl, q1, q2⟩
                have H5 : Hid (Wk w0 wb sb (.slice (some ⟨b, o, none⟩) L.length vc) L root G cs sn2 w5 ∧ Fr (On sb) wr w5) := ⟨q1, q2⟩
                clear q1 q2 b0 b10 ck
                go_wp2_with fail
                go_roundw
                case rel => exact ⟨i + 1, by omega, by go_num, sn2, H5.out.1, HQ.out.2.1.trans H5.out.2, HQ.out.2.2.1.fr H5.out.2 HMS.out, HE.out.2, HE.out.1⟩
                case measure => simp only [intOf]; omega
            · have e1 : M = 1 := by have := HKB.out; unfold kidsR at this; rw [if_pos (.inl rfl), beq_iff_eq] at this; rw [← HM.out]; exact this
              obtain rfl : i = M := by omega
              have dl : decide ((i : Int) < (i : Int)) = false := by simp
              subst e1
              obtain ⟨x, hx⟩ : ∃ x, ks = [x] := by
                have h1 := HM.out
                cases hk : ks with
                | nil => rw [hk] at h1; cases h1
                | cons x r =>
                  rw [hk] at h1
                  cases r with
                  | nil => exact ⟨x, rfl⟩
                  | cons y r => simp at h1
              have HX : Hid (ks = [x]) := hx
              have hx0 : ks[0]? = some x := by rw [hx]; rfl
              obtain ⟨kb, ko, rfl, ck⟩ := (HKS.out.kp HQ.out.1.kp).cell hx0
              rw [Nat.add_zero] at ck
              clear hx hx0
              have HWL : Hid (wlkL L G f ks (sn.set n true) = (true, snr)) := by
                have e := HQ.out.2.2.2.2
                rw [List.drop_eq_nil_of_le (Nat.le_of_eq HM.out), wlkL] at e
                exact e
              have HSG : Hid (Calls Tryz.prog 147 #[.pointer (some ⟨wb, 0, none⟩), .int .i64 x] wr fun e w' => e = .returned (.bool (sngR L (nodeAt L x))) ∧ Kp wr w') := by
                have h1 : (wlkL L G f ks (sn.set n true)).1 = true := by rw [HWL.out]
                rw [HX.out] at h1
                have h2 := wlkL_one h1
                exact fsingle_any HQ.out.1 (wlk_has h2) (fun _ => wlk_kids h2) HLL.out
              have HRX : Hid (R = (sngR L (nodeAt L x), snr)) := by
                show _ = _
                rw [HON.out, HWL.out, if_neg (by simp), if_pos (by trivial), HX.out]; rfl
              generalize sngR L (nodeAt L x) = SB at HSG HRX
              go_wp2_with fail
              refine Calls.mono HSG.out ?_
              rintro e w5 ⟨rfl, q1⟩
              have H5 : Hid (Kp wr w5) := q1
              clear q1 b0 b10 ck
              go_wp2_with fail
              go_ret
              rw [HRX.out]
              exact ⟨rfl, HQ.out.1.kpp H5.out, HQ.out.2.1.trans (Fr.of_below H5.out)⟩
    by_cases p8 : op = 8
    · subst p8
      go_upto_region 6 with fail
      clear b0
      obtain ⟨KB, hKB⟩ : ∃ KB, kidsR ⟨8, c, st, mn, mx, lz, nn, ks⟩ = KB := ⟨_, rfl⟩
      have HK : Hid (Calls Tryz.prog 146 #[.agg #[.int .u8 8, .int .u8 c, .int .u64 st.a, .int .u64 st.b, .int .u64 st.c, .int .u64 st.d, .int .i64 mn, .int .i64 mx, .bool lz, .int .i64 nn, .slice ka M kc]] W2.drew fun e w' => e = .returned (.bool KB) ∧ Kp W2.drew w') := by
        have := fkids_any (w := W2.drew) (d := ⟨8, c, st, mn, mx, lz, nn, ks⟩) (kv := .slice ka M kc) (HKS.out.kp (kp_trans H2.out.1.kp (kp_drew _)))
        rw [hKB] at this
        exact this
      have HKB : Hid (kidsR ⟨8, c, st, mn, mx, lz, nn, ks⟩ = KB) := hKB
      clear hKB
      cases KB with
      | false =>
        have HRX : Hid (R = (false, sn.set n true)) := by
          show _ = _
          rw [HR.out]
          exact wlk_bad HB.out HSN.out (by rw [HD.out]; rw [HKB.out]; rfl)
        refine wp_region_noPanic ?_
        refine wp_region_held_drew (S := fun x => Lc 195 m (Nq.cells ⟨8, c, st, mn, mx, lz, nn, ks⟩ (.slice ka M kc)) x ∧ x.cell? ⟨wb, 2, none⟩ = some (.int .i64 G)) (by kernel_rfl) (HS2.out) (fun hHeld => ?_)
        refine takeAt 0 (some 52) (.agg #[.int .u8 8, .int .u8 c, .int .u64 st.a, .int .u64 st.b, .int .u64 st.c, .int .u64 st.d, .int .i64 mn, .int .i64 mx, .bool lz, .int .i64 nn, .slice ka M kc]) rfl rfl (by kernel_rfl) (by kernel_rfl) (by kernel_rfl) (fun _ _ _ h => h) (Or.inl ⟨by rfl, ?_⟩) hHeld ?_
        · intro w hSw
          have x0 : w.cell? ⟨m, 0, none⟩ = _ := hSw.1.at rfl
          have x1 : w.cell? ⟨m, 1, none⟩ = _ := hSw.1.at rfl
          have x2 : w.cell? ⟨m, 2, none⟩ = _ := hSw.1.at rfl
          have x3 : w.cell? ⟨m, 3, none⟩ = _ := hSw.1.at rfl
          have x4 : w.cell? ⟨m, 4, none⟩ = _ := hSw.1.at rfl
          have x5 : w.cell? ⟨m, 5, none⟩ = _ := hSw.1.at rfl
          have x6 : w.cell? ⟨m, 6, none⟩ = _ := hSw.1.at rfl
          have x7 : w.cell? ⟨m, 7, none⟩ = _ := hSw.1.at rfl
          have x8 : w.cell? ⟨m, 8, none⟩ = _ := hSw.1.at rfl
          have x9 : w.cell? ⟨m, 9, none⟩ = _ := hSw.1.at rfl
          have x10 : w.cell? ⟨m, 10, none⟩ = _ := hSw.1.at rfl
          go_simp <;> with_reducible rfl
        try simp only [Act.put, List.setIfInBounds_toArray, List.set_cons_zero, List.set_cons_succ]
        refine callAt 1 53 146 (vals := #[.agg #[.int .u8 8, .int .u8 c, .int .u64 st.a, .int .u64 st.b, .int .u64 st.c, .int .u64 st.d, .int .i64 mn, .int .i64 mx, .bool lz, .int .i64 nn, .slice ka M kc]]) (by kernel_rfl) rfl rfl rfl rfl (by simp [Act.eval]) Tryz.func146 (by kernel_rfl) (by kernel_rfl) ?_
        refine Calls.mono HK.out ?_
        rintro e w3 ⟨rfl, q1⟩
        have H3 : Hid (Kp W2.drew w3) := q1
        clear q1
        refine ⟨_, rfl, ⟨HS2.out.1.kp H3.out, kp_cell H3.out HS2.out.2⟩, fun hHeld => ?_⟩
        try simp only [Act.put, List.setIfInBounds_toArray, List.set_cons_zero, List.set_cons_succ]
        refine takeAt 2 (some 54) ?_ rfl rfl (by kernel_rfl) (by kernel_rfl) (by kernel_rfl) (fun _ _ _ h => h) (Or.inl ⟨by rfl, ?_⟩) hHeld ?_
        rotate_left
        · intro w hSw
          go_simp <;> with_reducible rfl
        try simp only [Act.put, List.setIfInBounds_toArray, List.set_cons_zero, List.set_cons_succ]
        refine takeAt 3 (some 55) ?_ rfl rfl (by kernel_rfl) (by kernel_rfl) (by kernel_rfl) (fun _ _ _ h => h) (Or.inl ⟨by rfl, ?_⟩) hHeld ?_
        rotate_left
        · intro w hSw
          go_simp <;> with_reducible rfl
        try simp only [Act.put, List.setIfInBounds_toArray, List.set_cons_zero, List.set_cons_succ]
        refine takeAt 4 (some 56) undef rfl rfl (by kernel_rfl) (by kernel_rfl) (by kernel_rfl) (fun _ _ _ h => h) (Or.inr ⟨by rfl, rfl⟩) hHeld ?_
        try simp only [Act.put, List.setIfInBounds_toArray, List.set_cons_zero, List.set_cons_succ]
        refine takeAt 5 (some 57) undef rfl rfl (by kernel_rfl) (by kernel_rfl) (by kernel_rfl) (fun _ _ _ h => h) (Or.inr ⟨by rfl, rfl⟩) hHeld ?_
        try simp only [Act.put, List.setIfInBounds_toArray, List.set_cons_zero, List.set_cons_succ]
        refine takeAt 6 (some 58) undef rfl rfl (by kernel_rfl) (by kernel_rfl) (by kernel_rfl) (fun _ _ _ h => h) (Or.inr ⟨by rfl, rfl⟩) hHeld ?_
        try simp only [Act.put, List.setIfInBounds_toArray, List.set_cons_zero, List.set_cons_succ]
        refine takeAt 7 (some 59) undef rfl rfl (by kernel_rfl) (by kernel_rfl) (by kernel_rfl) (fun _ _ _ h => h) (Or.inr ⟨by rfl, rfl⟩) hHeld ?_
        try simp only [Act.put, List.setIfInBounds_toArray, List.set_cons_zero, List.set_cons_succ]
        refine takeAt 8 (some 60) undef rfl rfl (by kernel_rfl) (by kernel_rfl) (by kernel_rfl) (fun _ _ _ h => h) (Or.inr ⟨by rfl, rfl⟩) hHeld ?_
        try simp only [Act.put, List.setIfInBounds_toArray, List.set_cons_zero, List.set_cons_succ]
        refine takeAt 9 (some 61) undef rfl rfl (by kernel_rfl) (by kernel_rfl) (by kernel_rfl) (fun _ _ _ h => h) (Or.inr ⟨by rfl, rfl⟩) hHeld ?_
        try simp only [Act.put, List.setIfInBounds_toArray, List.set_cons_zero, List.set_cons_succ]
        refine takeAt 10 (some 62) undef rfl rfl (by kernel_rfl) (by kernel_rfl) (by kernel_rfl) (fun _ _ _ h => h) (Or.inr ⟨by rfl, rfl⟩) hHeld ?_
        try simp only [Act.put, List.setIfInBounds_toArray, List.set_cons_zero, List.set_cons_succ]
        refine takeAt 11 (some 63) undef rfl rfl (by kernel_rfl) (by kernel_rfl) (by kernel_rfl) (fun _ _ _ h => h) (Or.inr ⟨by rfl, rfl⟩) hHeld ?_
        try simp only [Act.put, List.setIfInBounds_toArray, List.set_cons_zero, List.set_cons_succ]
        refine takeAt 12 (some 64) undef rfl rfl (by kernel_rfl) (by kernel_rfl) (by kernel_rfl) (fun _ _ _ h => h) (Or.inr ⟨by rfl, rfl⟩) hHeld ?_
        try simp only [Act.put, List.setIfInBounds_toArray, List.set_cons_zero, List.set_cons_succ]
        refine takeAt 13 (some 65) undef rfl rfl (by kernel_rfl) (by kernel_rfl) (by kernel_rfl) (fun _ _ _ h => h) (Or.inr ⟨by rfl, rfl⟩) hHeld ?_
        try simp only [Act.put, List.setIfInBounds_toArray, List.set_cons_zero, List.set_cons_succ]
        refine takeAt 14 (some 66) undef rfl rfl (by kernel_rfl) (by kernel_rfl) (by kernel_rfl) (fun _ _ _ h => h) (Or.inr ⟨by rfl, rfl⟩) hHeld ?_
        try simp only [Act.put, List.setIfInBounds_toArray, List.set_cons_zero, List.set_cons_succ]
        refine takeAt 15 (some 67) undef rfl rfl (by kernel_rfl) (by kernel_rfl) (by kernel_rfl) (fun _ _ _ h => h) (Or.inr ⟨by rfl, rfl⟩) hHeld ?_
        try simp only [Act.put, List.setIfInBounds_toArray, List.set_cons_zero, List.set_cons_succ]
        refine takeAt 16 (some 68) undef rfl rfl (by kernel_rfl) (by kernel_rfl) (by kernel_rfl) (fun _ _ _ h => h) (Or.inr ⟨by rfl, rfl⟩) hHeld ?_
        try simp only [Act.put, List.setIfInBounds_toArray, List.set_cons_zero, List.set_cons_succ]
        refine takeAt 17 (some 69) undef rfl rfl (by kernel_rfl) (by kernel_rfl) (by kernel_rfl) (fun _ _ _ h => h) (Or.inr ⟨by rfl, rfl⟩) hHeld ?_
        try simp only [Act.put, List.setIfInBounds_toArray, List.set_cons_zero, List.set_cons_succ]
        refine takeAt 18 (some 70) undef rfl rfl (by kernel_rfl) (by kernel_rfl) (by kernel_rfl) (fun _ _ _ h => h) (Or.inr ⟨by rfl, rfl⟩) hHeld ?_
        try simp only [Act.put, List.setIfInBounds_toArray, List.set_cons_zero, List.set_cons_succ]
        refine takeAt 19 (some 71) undef rfl rfl (by kernel_rfl) (by kernel_rfl) (by kernel_rfl) (fun _ _ _ h => h) (Or.inr ⟨by rfl, rfl⟩) hHeld ?_
        try simp only [Act.put, List.setIfInBounds_toArray, List.set_cons_zero, List.set_cons_succ]
        refine takeAt 20 (some 72) ?_ rfl rfl (by kernel_rfl) (by kernel_rfl) (by kernel_rfl) (fun _ _ _ h => h) (Or.inl ⟨by rfl, ?_⟩) hHeld ?_
        rotate_left
        · intro w hSw
          go_simp <;> with_reducible rfl
        try simp only [Act.put, List.setIfInBounds_toArray, List.set_cons_zero, List.set_cons_succ]
        refine wpAnyH_done (by kernel_rfl) ?_ _
        refine NoPanic.normal ?_
        have HW3 : Hid (Wk w0 wb sb (.slice (some ⟨b, o, none⟩) L.length vc) L root G cs (sn.set n true) w3 ∧ Fr (On sb) w w3 ) := by
          have k3 := kp_trans (kp_drew W2) H3.out
          exact ⟨H2.out.1.kpp k3, H2.out.2.1.trans (Fr.of_below k3)⟩
        go_wp2_with fail
        go_ret
        rw [HRX.out]
        exact ⟨rfl, HW3.out.1, HW3.out.2⟩
      | true =>
        by_cases t1 : nn < 1
        · have g1 : decide (nn < 1) = true := decide_eq_true t1
          have HRX : Hid (R = (false, sn.set n true)) := by
            show _ = _
            rw [HR.out]
            exact wlk_bad HB.out HSN.out (by rw [HD.out]; rw [show numbR G ⟨8, c, st, mn, mx, lz, nn, ks⟩ = false by unfold numbR; rw [if_pos (by simp)]; exact decide_eq_false (by simp only; omega)]; simp)
          refine wp_region_noPanic ?_
          refine wp_region_held_drew (S := fun x => Lc 195 m (Nq.cells ⟨8, c, st, mn, mx, lz, nn, ks⟩ (.slice ka M kc)) x ∧ x.cell? ⟨wb, 2, none⟩ = some (.int .i64 G)) (by kernel_rfl) (HS2.out) (fun hHeld => ?_)
          refine takeAt 0 (some 52) (.agg #[.int .u8 8, .int .u8 c, .int .u64 st.a, .int .u64 st.b, .int .u64 st.c, .int .u64 st.d, .int .i64 mn, .int .i64 mx, .bool lz, .int .i64 nn, .slice ka M kc]) rfl rfl (by kernel_rfl) (by kernel_rfl) (by kernel_rfl) (fun _ _ _ h => h) (Or.inl ⟨by rfl, ?_⟩) hHeld ?_
          · intro w hSw
            have x0 : w.cell? ⟨m, 0, none⟩ = _ := hSw.1.at rfl
            have x1 : w.cell? ⟨m, 1, none⟩ = _ := hSw.1.at rfl
            have x2 : w.cell? ⟨m, 2, none⟩ = _ := hSw.1.at rfl
            have x3 : w.cell? ⟨m, 3, none⟩ = _ := hSw.1.at rfl
            have x4 : w.cell? ⟨m, 4, none⟩ = _ := hSw.1.at rfl
            have x5 : w.cell? ⟨m, 5, none⟩ = _ := hSw.1.at rfl
            have x6 : w.cell? ⟨m, 6, none⟩ = _ := hSw.1.at rfl
            have x7 : w.cell? ⟨m, 7, none⟩ = _ := hSw.1.at rfl
            have x8 : w.cell? ⟨m, 8, none⟩ = _ := hSw.1.at rfl
            have x9 : w.cell? ⟨m, 9, none⟩ = _ := hSw.1.at rfl
            have x10 : w.cell? ⟨m, 10, none⟩ = _ := hSw.1.at rfl
            go_simp <;> with_reducible rfl
          try simp only [Act.put, List.setIfInBounds_toArray, List.set_cons_zero, List.set_cons_succ]
          refine callAt 1 53 146 (vals := #[.agg #[.int .u8 8, .int .u8 c, .int .u64 st.a, .int .u64 st.b, .int .u64 st.c, .int .u64 st.d, .int .i64 mn, .int .i64 mx, .bool lz, .int .i64 nn, .slice ka M kc]]) (by kernel_rfl) rfl rfl rfl rfl (by simp [Act.eval]) Tryz.func146 (by kernel_rfl) (by kernel_rfl) ?_
          refine Calls.mono HK.out ?_
          rintro e w3 ⟨rfl, q1⟩
          have H3 : Hid (Kp W2.drew w3) := q1
          clear q1
          refine ⟨_, rfl, ⟨HS2.out.1.kp H3.out, kp_cell H3.out HS2.out.2⟩, fun hHeld => ?_⟩
          try simp only [Act.put, List.setIfInBounds_toArray, List.set_cons_zero, List.set_cons_succ]
          refine takeAt 2 (some 54) ?_ rfl rfl (by kernel_rfl) (by kernel_rfl) (by kernel_rfl) (fun _ _ _ h => h) (Or.inl ⟨by rfl, ?_⟩) hHeld ?_
          rotate_left
          · intro w hSw
            go_simp <;> with_reducible rfl
          try simp only [Act.put, List.setIfInBounds_toArray, List.set_cons_zero, List.set_cons_succ]
          refine takeAt 3 (some 55) ?_ rfl rfl (by kernel_rfl) (by kernel_rfl) (by kernel_rfl) (fun _ _ _ h => h) (Or.inl ⟨by rfl, ?_⟩) hHeld ?_
          rotate_left
          · intro w hSw
            go_simp <;> with_reducible rfl
          try simp only [Act.put, List.setIfInBounds_toArray, List.set_cons_zero, List.set_cons_succ]
          refine takeAt 4 (some 56) ?_ rfl rfl (by kernel_rfl) (by kernel_rfl) (by kernel_rfl) (fun _ _ _ h => h) (Or.inl ⟨by rfl, ?_⟩) hHeld ?_
          rotate_left
          · intro w hSw
            go_simp <;> with_reducible rfl
          try simp only [Act.put, List.setIfInBounds_toArray, List.set_cons_zero, List.set_cons_succ]
          refine takeAt 5 (some 57) ?_ rfl rfl (by kernel_rfl) (by kernel_rfl) (by kernel_rfl) (fun _ _ _ h => h) (Or.inl ⟨by rfl, ?_⟩) hHeld ?_
          rotate_left
          · intro w hSw
            go_simp <;> with_reducible rfl
          try simp only [Act.put, List.setIfInBounds_toArray, List.set_cons_zero, List.set_cons_succ]
          refine takeAt 6 (some 58) ?_ rfl rfl (by kernel_rfl) (by kernel_rfl) (by kernel_rfl) (fun _ _ _ h => h) (Or.inl ⟨by rfl, ?_⟩) hHeld ?_
          rotate_left
          · intro w hSw
            go_simp <;> with_reducible rfl
          try simp only [Act.put, List.setIfInBounds_toArray, List.set_cons_zero, List.set_cons_succ]
          refine takeAt 7 (some 59) (.int .i64 nn) rfl rfl (by kernel_rfl) (by kernel_rfl) (by kernel_rfl) (fun _ _ _ h => h) (Or.inl ⟨by rfl, ?_⟩) hHeld ?_
          · intro w hSw
            have x9 : w.cell? ⟨m, 9, none⟩ = _ := hSw.1.at rfl
            go_simp <;> with_reducible rfl
          try simp only [Act.put, List.setIfInBounds_toArray, List.set_cons_zero, List.set_cons_succ]
          refine takeAt 8 (some 60) ?_ rfl rfl (by kernel_rfl) (by kernel_rfl) (by kernel_rfl) (fun _ _ _ h => h) (Or.inl ⟨by rfl, ?_⟩) hHeld ?_
          rotate_left
          · intro w hSw
            go_simp <;> with_reducible rfl
          try simp only [Act.put, List.setIfInBounds_toArray, List.set_cons_zero, List.set_cons_succ]
          refine takeAt 9 (some 61) ?_ rfl rfl (by kernel_rfl) (by kernel_rfl) (by kernel_rfl) (fun _ _ _ h => h) (Or.inl ⟨by rfl, ?_⟩) hHeld ?_
          rotate_left
          · intro w hSw
            go_simp <;> with_reducible rfl
          try simp only [Act.put, List.setIfInBounds_toArray, List.set_cons_zero, List.set_cons_succ]
          refine takeAt 10 (some 62) undef rfl rfl (by kernel_rfl) (by kernel_rfl) (by kernel_rfl) (fun _ _ _ h => h) (Or.inr ⟨by rfl, rfl⟩) hHeld ?_
          try simp only [Act.put, List.setIfInBounds_toArray, List.set_cons_zero, List.set_cons_succ]
          refine takeAt 11 (some 63) undef rfl rfl (by kernel_rfl) (by kernel_rfl) (by kernel_rfl) (fun _ _ _ h => h) (Or.inr ⟨by rfl, rfl⟩) hHeld ?_
          try simp only [Act.put, List.setIfInBounds_toArray, List.set_cons_zero, List.set_cons_succ]
          refine takeAt 12 (some 64) undef rfl rfl (by kernel_rfl) (by kernel_rfl) (by kernel_rfl) (fun _ _ _ h => h) (Or.inr ⟨by rfl, rfl⟩) hHeld ?_
          try simp only [Act.put, List.setIfInBounds_toArray, List.set_cons_zero, List.set_cons_succ]
          refine takeAt 13 (some 65) undef rfl rfl (by kernel_rfl) (by kernel_rfl) (by kernel_rfl) (fun _ _ _ h => h) (Or.inr ⟨by rfl, rfl⟩) hHeld ?_
          try simp only [Act.put, List.setIfInBounds_toArray, List.set_cons_zero, List.set_cons_succ]
          refine takeAt 14 (some 66) undef rfl rfl (by kernel_rfl) (by kernel_rfl) (by kernel_rfl) (fun _ _ _ h => h) (Or.inr ⟨by rfl, rfl⟩) hHeld ?_
          try simp only [Act.put, List.setIfInBounds_toArray, List.set_cons_zero, List.set_cons_succ]
          refine takeAt 15 (some 67) undef rfl rfl (by kernel_rfl) (by kernel_rfl) (by kernel_rfl) (fun _ _ _ h => h) (Or.inr ⟨by rfl, rfl⟩) hHeld ?_
          try simp only [Act.put, List.setIfInBounds_toArray, List.set_cons_zero, List.set_cons_succ]
          refine takeAt 16 (some 68) undef rfl rfl (by kernel_rfl) (by kernel_rfl) (by kernel_rfl) (fun _ _ _ h => h) (Or.inr ⟨by rfl, rfl⟩) hHeld ?_
          try simp only [Act.put, List.setIfInBounds_toArray, List.set_cons_zero, List.set_cons_succ]
          refine takeAt 17 (some 69) undef rfl rfl (by kernel_rfl) (by kernel_rfl) (by kernel_rfl) (fun _ _ _ h => h) (Or.inr ⟨by rfl, rfl⟩) hHeld ?_
          try simp only [Act.put, List.setIfInBounds_toArray, List.set_cons_zero, List.set_cons_succ]
          refine takeAt 18 (some 70) ?_ rfl rfl (by kernel_rfl) (by kernel_rfl) (by kernel_rfl) (fun _ _ _ h => h) (Or.inl ⟨by rfl, ?_⟩) hHeld ?_
          rotate_left
          · intro w hSw
            go_simp <;> with_reducible rfl
          try simp only [Act.put, List.setIfInBounds_toArray, List.set_cons_zero, List.set_cons_succ]
          refine takeAt 19 (some 71) ?_ rfl rfl (by kernel_rfl) (by kernel_rfl) (by kernel_rfl) (fun _ _ _ h => h) (Or.inl ⟨by rfl, ?_⟩) hHeld ?_
          rotate_left
          · intro w hSw
            go_simp <;> with_reducible rfl
          try simp only [Act.put, List.setIfInBounds_toArray, List.set_cons_zero, List.set_cons_succ]
          refine takeAt 20 (some 72) ?_ rfl rfl (by kernel_rfl) (by kernel_rfl) (by kernel_rfl) (fun _ _ _ h => h) (Or.inl ⟨by rfl, ?_⟩) hHeld ?_
          rotate_left
          · intro w hSw
            go_simp <;> with_reducible rfl
          try simp only [Act.put, List.setIfInBounds_toArray, List.set_cons_zero, List.set_cons_succ]
          refine wpAnyH_done (by kernel_rfl) ?_ _
          refine NoPanic.normal ?_
          have HW3 : Hid (Wk w0 wb sb (.slice (some ⟨b, o, none⟩) L.length vc) L root G cs (sn.set n true) w3 ∧ Fr (On sb) w w3 ∧ Lc 195 m (Nq.cells ⟨8, c, st, mn, mx, lz, nn, ks⟩ (.slice ka M kc)) w3) := by
            have k3 := kp_trans (kp_drew W2) H3.out
            exact ⟨H2.out.1.kpp k3, H2.out.2.1.trans (Fr.of_below k3), H2.out.2.2.kp k3⟩
          go_wp2_with fail
          go_ret
          rw [HRX.out]
          exact ⟨rfl, HW3.out.1, HW3.out.2.1⟩
        have g1 : decide (nn < 1) = false := decide_eq_false t1
        by_cases t2 : G < nn
        · have g2 : decide (nn > G) = true := decide_eq_true t2
          have g2' : decide (G < nn) = true := decide_eq_true t2
          have HRX : Hid (R = (false, sn.set n true)) := by
            show _ = _
            rw [HR.out]
            exact wlk_bad HB.out HSN.out (by rw [HD.out]; rw [show numbR G ⟨8, c, st, mn, mx, lz, nn, ks⟩ = false by unfold numbR; rw [if_pos (by simp)]; exact decide_eq_false (by simp only; omega)]; simp)
          refine wp_region_noPanic ?_
          refine wp_region_held_drew (S := fun x => Lc 195 m (Nq.cells ⟨8, c, st, mn, mx, lz, nn, ks⟩ (.slice ka M kc)) x ∧ x.cell? ⟨wb, 2, none⟩ = some (.int .i64 G)) (by kernel_rfl) (HS2.out) (fun hHeld => ?_)
          refine takeAt 0 (some 52) (.agg #[.int .u8 8, .int .u8 c, .int .u64 st.a, .int .u64 st.b, .int .u64 st.c, .int .u64 st.d, .int .i64 mn, .int .i64 mx, .bool lz, .int .i64 nn, .slice ka M kc]) rfl rfl (by kernel_rfl) (by kernel_rfl) (by kernel_rfl) (fun _ _ _ h => h) (Or.inl ⟨by rfl, ?_⟩) hHeld ?_
          · intro w hSw
            have x0 : w.cell? ⟨m, 0, none⟩ = _ := hSw.1.at rfl
            have x1 : w.cell? ⟨m, 1, none⟩ = _ := hSw.1.at rfl
            have x2 : w.cell? ⟨m, 2, none⟩ = _ := hSw.1.at rfl
            have x3 : w.cell? ⟨m, 3, none⟩ = _ := hSw.1.at rfl
            have x4 : w.cell? ⟨m, 4, none⟩ = _ := hSw.1.at rfl
            have x5 : w.cell? ⟨m, 5, none⟩ = _ := hSw.1.at rfl
            have x6 : w.cell? ⟨m, 6, none⟩ = _ := hSw.1.at rfl
            have x7 : w.cell? ⟨m, 7, none⟩ = _ := hSw.1.at rfl
            have x8 : w.cell? ⟨m, 8, none⟩ = _ := hSw.1.at rfl
            have x9 : w.cell? ⟨m, 9, none⟩ = _ := hSw.1.at rfl
            have x10 : w.cell? ⟨m, 10, none⟩ = _ := hSw.1.at rfl
            go_simp <;> with_reducible rfl
          try simp only [Act.put, List.setIfInBounds_toArray, List.set_cons_zero, List.set_cons_succ]
          refine callAt 1 53 146 (vals := #[.agg #[.int .u8 8, .int .u8 c, .int .u64 st.a, .int .u64 st.b, .int .u64 st.c, .int .u64 st.d, .int .i64 mn, .int .i64 mx, .bool lz, .int .i64 nn, .slice ka M kc]]) (by kernel_rfl) rfl rfl rfl rfl (by simp [Act.eval]) Tryz.func146 (by kernel_rfl) (by kernel_rfl) ?_
          refine Calls.mono HK.out ?_
          rintro e w3 ⟨rfl, q1⟩
          have H3 : Hid (Kp W2.drew w3) := q1
          clear q1
          refine ⟨_, rfl, ⟨HS2.out.1.kp H3.out, kp_cell H3.out HS2.out.2⟩, fun hHeld => ?_⟩
          try simp only [Act.put, List.setIfInBounds_toArray, List.set_cons_zero, List.set_cons_succ]
          refine takeAt 2 (some 54) ?_ rfl rfl (by kernel_rfl) (by kernel_rfl) (by kernel_rfl) (fun _ _ _ h => h) (Or.inl ⟨by rfl, ?_⟩) hHeld ?_
          rotate_left
          · intro w hSw
            go_simp <;> with_reducible rfl
          try simp only [Act.put, List.setIfInBounds_toArray, List.set_cons_zero, List.set_cons_succ]
          refine takeAt 3 (some 55) ?_ rfl rfl (by kernel_rfl) (by kernel_rfl) (by kernel_rfl) (fun _ _ _ h => h) (Or.inl ⟨by rfl, ?_⟩) hHeld ?_
          rotate_left
          · intro w hSw
            go_simp <;> with_reducible rfl
          try simp only [Act.put, List.setIfInBounds_toArray, List.set_cons_zero, List.set_cons_succ]
          refine takeAt 4 (some 56) ?_ rfl rfl (by kernel_rfl) (by kernel_rfl) (by kernel_rfl) (fun _ _ _ h => h) (Or.inl ⟨by rfl, ?_⟩) hHeld ?_
          rotate_left
          · intro w hSw
            go_simp <;> with_reducible rfl
          try simp only [Act.put, List.setIfInBounds_toArray, List.set_cons_zero, List.set_cons_succ]
          refine takeAt 5 (some 57) ?_ rfl rfl (by kernel_rfl) (by kernel_rfl) (by kernel_rfl) (fun _ _ _ h => h) (Or.inl ⟨by rfl, ?_⟩) hHeld ?_
          rotate_left
          · intro w hSw
            go_simp <;> with_reducible rfl
          try simp only [Act.put, List.setIfInBounds_toArray, List.set_cons_zero, List.set_cons_succ]
          refine takeAt 6 (some 58) ?_ rfl rfl (by kernel_rfl) (by kernel_rfl) (by kernel_rfl) (fun _ _ _ h => h) (Or.inl ⟨by rfl, ?_⟩) hHeld ?_
          rotate_left
          · intro w hSw
            go_simp <;> with_reducible rfl
          try simp only [Act.put, List.setIfInBounds_toArray, List.set_cons_zero, List.set_cons_succ]
          refine takeAt 7 (some 59) (.int .i64 nn) rfl rfl (by kernel_rfl) (by kernel_rfl) (by kernel_rfl) (fun _ _ _ h => h) (Or.inl ⟨by rfl, ?_⟩) hHeld ?_
          · intro w hSw
            have x9 : w.cell? ⟨m, 9, none⟩ = _ := hSw.1.at rfl
            go_simp <;> with_reducible rfl
          try simp only [Act.put, List.setIfInBounds_toArray, List.set_cons_zero, List.set_cons_succ]
          refine takeAt 8 (some 60) ?_ rfl rfl (by kernel_rfl) (by kernel_rfl) (by kernel_rfl) (fun _ _ _ h => h) (Or.inl ⟨by rfl, ?_⟩) hHeld ?_
          rotate_left
          · intro w hSw
            go_simp <;> with_reducible rfl
          try simp only [Act.put, List.setIfInBounds_toArray, List.set_cons_zero, List.set_cons_succ]
          refine takeAt 9 (some 61) ?_ rfl rfl (by kernel_rfl) (by kernel_rfl) (by kernel_rfl) (fun _ _ _ h => h) (Or.inl ⟨by rfl, ?_⟩) hHeld ?_
          rotate_left
          · intro w hSw
            go_simp <;> with_reducible rfl
          try simp only [Act.put, List.setIfInBounds_toArray, List.set_cons_zero, List.set_cons_succ]
          refine takeAt 10 (some 62) ?_ rfl rfl (by kernel_rfl) (by kernel_rfl) (by kernel_rfl) (fun _ _ _ h => h) (Or.inl ⟨by rfl, ?_⟩) hHeld ?_
          rotate_left
          · intro w hSw
            go_simp <;> with_reducible rfl
          try simp only [Act.put, List.setIfInBounds_toArray, List.set_cons_zero, List.set_cons_succ]
          refine takeAt 11 (some 63) (.int .i64 nn) rfl rfl (by kernel_rfl) (by kernel_rfl) (by kernel_rfl) (fun _ _ _ h => h) (Or.inl ⟨by rfl, ?_⟩) hHeld ?_
          · intro w hSw
            have x9 : w.cell? ⟨m, 9, none⟩ = _ := hSw.1.at rfl
            go_simp <;> with_reducible rfl
          try simp only [Act.put, List.setIfInBounds_toArray, List.set_cons_zero, List.set_cons_succ]
          refine takeAt 12 (some 64) ?_ rfl rfl (by kernel_rfl) (by kernel_rfl) (by kernel_rfl) (fun _ _ _ h => h) (Or.inl ⟨by rfl, ?_⟩) hHeld ?_
          rotate_left
          · intro w hSw
            go_simp <;> with_reducible rfl
          try simp only [Act.put, List.setIfInBounds_toArray, List.set_cons_zero, List.set_cons_succ]
          refine takeAt 13 (some 65) ?_ rfl rfl (by kernel_rfl) (by kernel_rfl) (by kernel_rfl) (fun _ _ _ h => h) (Or.inl ⟨by rfl, ?_⟩) hHeld ?_
          rotate_left
          · intro w hSw
            go_simp <;> with_reducible rfl
          try simp only [Act.put, List.setIfInBounds_toArray, List.set_cons_zero, List.set_cons_succ]
          refine takeAt 14 (some 66) ?_ rfl rfl (by kernel_rfl) (by kernel_rfl) (by kernel_rfl) (fun _ _ _ h => h) (Or.inl ⟨by rfl, ?_⟩) hHeld ?_
          rotate_left
          · intro w hSw
            go_simp <;> with_reducible rfl
          try simp only [Act.put, List.setIfInBounds_toArray, List.set_cons_zero, List.set_cons_succ]
          refine takeAt 15 (some 67) ?_ rfl rfl (by kernel_rfl) (by kernel_rfl) (by kernel_rfl) (fun _ _ _ h => h) (Or.inl ⟨by rfl, ?_⟩) hHeld ?_
          rotate_left
          · intro w hSw
            go_simp <;> with_reducible rfl
          try simp only [Act.put, List.setIfInBounds_toArray, List.set_cons_zero, List.set_cons_succ]
          refine takeAt 16 (some 68) (.int .i64 G) rfl rfl (by kernel_rfl) (by kernel_rfl) (by kernel_rfl) (fun _ _ _ h => h) (Or.inl ⟨by rfl, ?_⟩) hHeld ?_
          · intro w hSw
            have g2 := hSw.2
            go_simp <;> with_reducible rfl
          try simp only [Act.put, List.setIfInBounds_toArray, List.set_cons_zero, List.set_cons_succ]
          refine takeAt 17 (some 69) ?_ rfl rfl (by kernel_rfl) (by kernel_rfl) (by kernel_rfl) (fun _ _ _ h => h) (Or.inl ⟨by rfl, ?_⟩) hHeld ?_
          rotate_left
          · intro w hSw
            go_simp <;> with_reducible rfl
          try simp only [Act.put, List.setIfInBounds_toArray, List.set_cons_zero, List.set_cons_succ]
          refine takeAt 18 (some 70) ?_ rfl rfl (by kernel_rfl) (by kernel_rfl) (by kernel_rfl) (fun _ _ _ h => h) (Or.inl ⟨by rfl, ?_⟩) hHeld ?_
          rotate_left
          · intro w hSw
            go_simp <;> with_reducible rfl
          try simp only [Act.put, List.setIfInBounds_toArray, List.set_cons_zero, List.set_cons_succ]
          refine takeAt 19 (some 71) ?_ rfl rfl (by kernel_rfl) (by kernel_rfl) (by kernel_rfl) (fun _ _ _ h => h) (Or.inl ⟨by rfl, ?_⟩) hHeld ?_
          rotate_left
          · intro w hSw
            go_simp <;> with_reducible rfl
          try simp only [Act.put, List.setIfInBounds_toArray, List.set_cons_zero, List.set_cons_succ]
          refine takeAt 20 (some 72) ?_ rfl rfl (by kernel_rfl) (by kernel_rfl) (by kernel_rfl) (fun _ _ _ h => h) (Or.inl ⟨by rfl, ?_⟩) hHeld ?_
          rotate_left
          · intro w hSw
            go_simp <;> with_reducible rfl
          try simp only [Act.put, List.setIfInBounds_toArray, List.set_cons_zero, List.set_cons_succ]
          refine wpAnyH_done (by kernel_rfl) ?_ _
          refine NoPanic.normal ?_
          have HW3 : Hid (Wk w0 wb sb (.slice (some ⟨b, o, none⟩) L.length vc) L root G cs (sn.set n true) w3 ∧ Fr (On sb) w w3 ∧ Lc 195 m (Nq.cells ⟨8, c, st, mn, mx, lz, nn, ks⟩ (.slice ka M kc)) w3) := by
            have k3 := kp_trans (kp_drew W2) H3.out
            exact ⟨H2.out.1.kpp k3, H2.out.2.1.trans (Fr.of_below k3), H2.out.2.2.kp k3⟩
          go_wp2_with fail
          go_ret
          rw [HRX.out]
          exact ⟨rfl, HW3.out.1, HW3.out.2.1⟩
        have g2 : decide (nn > G) = false := decide_eq_false t2
        have g2' : decide (G < nn) = false := decide_eq_false t2
        have HON : Hid (R = if (wlkL L G f ks (sn.set n true)).1 = false then (false, (wlkL L G f ks (sn.set n true)).2) else (if 8 = 7 then sngR L (nodeAt L (ks.headD 0)) else true, (wlkL L G f ks (sn.set n true)).2)) := by
          show _ = _
          have := wlk_on (G := G) (f := f) HB.out HSN.out (by rw [HD.out]; rw [HKB.out, show numbR G ⟨8, c, st, mn, mx, lz, nn, ks⟩ = true by unfold numbR; rw [if_pos (by simp)]; exact decide_eq_true (by simp only; omega)]; rfl)
          rw [HD.out] at this
          rw [HR.out]
          exact this
        refine wp_region_noPanic ?_
        refine wp_region_held_drew (S := fun x => Lc 195 m (Nq.cells ⟨8, c, st, mn, mx, lz, nn, ks⟩ (.slice ka M kc)) x ∧ x.cell? ⟨wb, 2, none⟩ = some (.int .i64 G)) (by kernel_rfl) (HS2.out) (fun hHeld => ?_)
        refine takeAt 0 (some 52) (.agg #[.int .u8 8, .int .u8 c, .int .u64 st.a, .int .u64 st.b, .int .u64 st.c, .int .u64 st.d, .int .i64 mn, .int .i64 mx, .bool lz, .int .i64 nn, .slice ka M kc]) rfl rfl (by kernel_rfl) (by kernel_rfl) (by kernel_rfl) (fun _ _ _ h => h) (Or.inl ⟨by rfl, ?_⟩) hHeld ?_
        · intro w hSw
          have x0 : w.cell? ⟨m, 0, none⟩ = _ := hSw.1.at rfl
          have x1 : w.cell? ⟨m, 1, none⟩ = _ := hSw.1.at rfl
          have x2 : w.cell? ⟨m, 2, none⟩ = _ := hSw.1.at rfl
          have x3 : w.cell? ⟨m, 3, none⟩ = _ := hSw.1.at rfl
          have x4 : w.cell? ⟨m, 4, none⟩ = _ := hSw.1.at rfl
          have x5 : w.cell? ⟨m, 5, none⟩ = _ := hSw.1.at rfl
          have x6 : w.cell? ⟨m, 6, none⟩ = _ := hSw.1.at rfl
          have x7 : w.cell? ⟨m, 7, none⟩ = _ := hSw.1.at rfl
          have x8 : w.cell? ⟨m, 8, none⟩ = _ := hSw.1.at rfl
          have x9 : w.cell? ⟨m, 9, none⟩ = _ := hSw.1.at rfl
          have x10 : w.cell? ⟨m, 10, none⟩ = _ := hSw.1.at rfl
          go_simp <;> with_reducible rfl
        try simp only [Act.put, List.setIfInBounds_toArray, List.set_cons_zero, List.set_cons_succ]
        refine callAt 1 53 146 (vals := #[.agg #[.int .u8 8, .int .u8 c, .int .u64 st.a, .int .u64 st.b, .int .u64 st.c, .int .u64 st.d, .int .i64 mn, .int .i64 mx, .bool lz, .int .i64 nn, .slice ka M kc]]) (by kernel_rfl) rfl rfl rfl rfl (by simp [Act.eval]) Tryz.func146 (by kernel_rfl) (by kernel_rfl) ?_
        refine Calls.mono HK.out ?_
        rintro e w3 ⟨rfl, q1⟩
        have H3 : Hid (Kp W2.drew w3) := q1
        clear q1
        refine ⟨_, rfl, ⟨HS2.out.1.kp H3.out, kp_cell H3.out HS2.out.2⟩, fun hHeld => ?_⟩
        try simp only [Act.put, List.setIfInBounds_toArray, List.set_cons_zero, List.set_cons_succ]
        refine takeAt 2 (some 54) ?_ rfl rfl (by kernel_rfl) (by kernel_rfl) (by kernel_rfl) (fun _ _ _ h => h) (Or.inl ⟨by rfl, ?_⟩) hHeld ?_
        rotate_left
        · intro w hSw
          go_simp <;> with_reducible rfl
        try simp only [Act.put, List.setIfInBounds_toArray, List.set_cons_zero, List.set_cons_succ]
        refine takeAt 3 (some 55) ?_ rfl rfl (by kernel_rfl) (by kernel_rfl) (by kernel_rfl) (fun _ _ _ h => h) (Or.inl ⟨by rfl, ?_⟩) hHeld ?_
        rotate_left
        · intro w hSw
          go_simp <;> with_reducible rfl
        try simp only [Act.put, List.setIfInBounds_toArray, List.set_cons_zero, List.set_cons_succ]
        refine takeAt 4 (some 56) ?_ rfl rfl (by kernel_rfl) (by kernel_rfl) (by kernel_rfl) (fun _ _ _ h => h) (Or.inl ⟨by rfl, ?_⟩) hHeld ?_
        rotate_left
        · intro w hSw
          go_simp <;> with_reducible rfl
        try simp only [Act.put, List.setIfInBounds_toArray, List.set_cons_zero, List.set_cons_succ]
        refine takeAt 5 (some 57) ?_ rfl rfl (by kernel_rfl) (by kernel_rfl) (by kernel_rfl) (fun _ _ _ h => h) (Or.inl ⟨by rfl, ?_⟩) hHeld ?_
        rotate_left
        · intro w hSw
          go_simp <;> with_reducible rfl
        try simp only [Act.put, List.setIfInBounds_toArray, List.set_cons_zero, List.set_cons_succ]
        refine takeAt 6 (some 58) ?_ rfl rfl (by kernel_rfl) (by kernel_rfl) (by kernel_rfl) (fun _ _ _ h => h) (Or.inl ⟨by rfl, ?_⟩) hHeld ?_
        rotate_left
        · intro w hSw
          go_simp <;> with_reducible rfl
        try simp only [Act.put, List.setIfInBounds_toArray, List.set_cons_zero, List.set_cons_succ]
        refine takeAt 7 (some 59) (.int .i64 nn) rfl rfl (by kernel_rfl) (by kernel_rfl) (by kernel_rfl) (fun _ _ _ h => h) (Or.inl ⟨by rfl, ?_⟩) hHeld ?_
        · intro w hSw
          have x9 : w.cell? ⟨m, 9, none⟩ = _ := hSw.1.at rfl
          go_simp <;> with_reducible rfl
        try simp only [Act.put, List.setIfInBounds_toArray, List.set_cons_zero, List.set_cons_succ]
        refine takeAt 8 (some 60) ?_ rfl rfl (by kernel_rfl) (by kernel_rfl) (by kernel_rfl) (fun _ _ _ h => h) (Or.inl ⟨by rfl, ?_⟩) hHeld ?_
        rotate_left
        · intro w hSw
          go_simp <;> with_reducible rfl
        try simp only [Act.put, List.setIfInBounds_toArray, List.set_cons_zero, List.set_cons_succ]
        refine takeAt 9 (some 61) ?_ rfl rfl (by kernel_rfl) (by kernel_rfl) (by kernel_rfl) (fun _ _ _ h => h) (Or.inl ⟨by rfl, ?_⟩) hHeld ?_
        rotate_left
        · intro w hSw
          go_simp <;> with_reducible rfl
        try simp only [Act.put, List.setIfInBounds_toArray, List.set_cons_zero, List.set_cons_succ]
        refine takeAt 10 (some 62) ?_ rfl rfl (by kernel_rfl) (by kernel_rfl) (by kernel_rfl) (fun _ _ _ h => h) (Or.inl ⟨by rfl, ?_⟩) hHeld ?_
        rotate_left
        · intro w hSw
          go_simp <;> with_reducible rfl
        try simp only [Act.put, List.setIfInBounds_toArray, List.set_cons_zero, List.set_cons_succ]
        refine takeAt 11 (some 63) (.int .i64 nn) rfl rfl (by kernel_rfl) (by kernel_rfl) (by kernel_rfl) (fun _ _ _ h => h) (Or.inl ⟨by rfl, ?_⟩) hHeld ?_
        · intro w hSw
          have x9 : w.cell? ⟨m, 9, none⟩ = _ := hSw.1.at rfl
          go_simp <;> with_reducible rfl
        try simp only [Act.put, List.setIfInBounds_toArray, List.set_cons_zero, List.set_cons_succ]
        refine takeAt 12 (some 64) ?_ rfl rfl (by kernel_rfl) (by kernel_rfl) (by kernel_rfl) (fun _ _ _ h => h) (Or.inl ⟨by rfl, ?_⟩) hHeld ?_
        rotate_left
        · intro w hSw
          go_simp <;> with_reducible rfl
        try simp only [Act.put, List.setIfInBounds_toArray, List.set_cons_zero, List.set_cons_succ]
        refine takeAt 13 (some 65) ?_ rfl rfl (by kernel_rfl) (by kernel_rfl) (by kernel_rfl) (fun _ _ _ h => h) (Or.inl ⟨by rfl, ?_⟩) hHeld ?_
        rotate_left
        · intro w hSw
          go_simp <;> with_reducible rfl
        try simp only [Act.put, List.setIfInBounds_toArray, List.set_cons_zero, List.set_cons_succ]
        refine takeAt 14 (some 66) ?_ rfl rfl (by kernel_rfl) (by kernel_rfl) (by kernel_rfl) (fun _ _ _ h => h) (Or.inl ⟨by rfl, ?_⟩) hHeld ?_
        rotate_left
        · intro w hSw
          go_simp <;> with_reducible rfl
        try simp only [Act.put, List.setIfInBounds_toArray, List.set_cons_zero, List.set_cons_succ]
        refine takeAt 15 (some 67) ?_ rfl rfl (by kernel_rfl) (by kernel_rfl) (by kernel_rfl) (fun _ _ _ h => h) (Or.inl ⟨by rfl, ?_⟩) hHeld ?_
        rotate_left
        · intro w hSw
          go_simp <;> with_reducible rfl
        try simp only [Act.put, List.setIfInBounds_toArray, List.set_cons_zero, List.set_cons_succ]
        refine takeAt 16 (some 68) (.int .i64 G) rfl rfl (by kernel_rfl) (by kernel_rfl) (by kernel_rfl) (fun _ _ _ h => h) (Or.inl ⟨by rfl, ?_⟩) hHeld ?_
        · intro w hSw
          have g2 := hSw.2
          go_simp <;> with_reducible rfl
        try simp only [Act.put, List.setIfInBounds_toArray, List.set_cons_zero, List.set_cons_succ]
        refine takeAt 17 (some 69) ?_ rfl rfl (by kernel_rfl) (by kernel_rfl) (by kernel_rfl) (fun _ _ _ h => h) (Or.inl ⟨by rfl, ?_⟩) hHeld ?_
        rotate_left
        · intro w hSw
          go_simp <;> with_reducible rfl
        try simp only [Act.put, List.setIfInBounds_toArray, List.set_cons_zero, List.set_cons_succ]
        refine takeAt 18 (some 70) ?_ rfl rfl (by kernel_rfl) (by kernel_rfl) (by kernel_rfl) (fun _ _ _ h => h) (Or.inl ⟨by rfl, ?_⟩) hHeld ?_
        rotate_left
        · intro w hSw
          go_simp <;> with_reducible rfl
        try simp only [Act.put, List.setIfInBounds_toArray, List.set_cons_zero, List.set_cons_succ]
        refine takeAt 19 (some 71) ?_ rfl rfl (by kernel_rfl) (by kernel_rfl) (by kernel_rfl) (fun _ _ _ h => h) (Or.inl ⟨by rfl, ?_⟩) hHeld ?_
        rotate_left
        · intro w hSw
          go_simp <;> with_reducible rfl
        try simp only [Act.put, List.setIfInBounds_toArray, List.set_cons_zero, List.set_cons_succ]
        refine takeAt 20 (some 72) ?_ rfl rfl (by kernel_rfl) (by kernel_rfl) (by kernel_rfl) (fun _ _ _ h => h) (Or.inl ⟨by rfl, ?_⟩) hHeld ?_
        rotate_left
        · intro w hSw
          go_simp <;> with_reducible rfl
        try simp only [Act.put, List.setIfInBounds_toArray, List.set_cons_zero, List.set_cons_succ]
        refine wpAnyH_done (by kernel_rfl) ?_ _
        refine NoPanic.normal ?_
        have HW3 : Hid (Wk w0 wb sb (.slice (some ⟨b, o, none⟩) L.length vc) L root G cs (sn.set n true) w3 ∧ Fr (On sb) w w3 ∧ Lc 195 m (Nq.cells ⟨8, c, st, mn, mx, lz, nn, ks⟩ (.slice ka M kc)) w3) := by
          have k3 := kp_trans (kp_drew W2) H3.out
          exact ⟨H2.out.1.kpp k3, H2.out.2.1.trans (Fr.of_below k3), H2.out.2.2.kp k3⟩
        have b0 : w3.cell? ⟨m, 0, none⟩ = some (.int .u8 8) := HW3.out.2.2.at rfl
        have b6 : w3.cell? ⟨m, 6, none⟩ = some (.int .i64 mn) := HW3.out.2.2.at rfl
        have b7 : w3.cell? ⟨m, 7, none⟩ = some (.int .i64 mx) := HW3.out.2.2.at rfl
        have HC : Hid ((sn.set n true).count false < f) := by have := cnt_set HSN.out; have := HH.out.2; show _ < _; omega
        go_wp2_with fail
        clear b0 b6 b7
        go_loopw [7] (fun v7 wr => ∃ i : Nat, i ≤ M ∧ v7 = .int .i64 i ∧ Hid (∃ snr, Wk w0 wb sb (.slice (some ⟨b, o, none⟩) L.length vc) L root G cs snr wr ∧ Fr (On sb) w wr ∧ Lc 195 m (Nq.cells ⟨8, c, st, mn, mx, lz, nn, ks⟩ (.slice ka M kc)) wr ∧ snr.count false < f ∧ wlkL L G f ks (sn.set n true) = wlkL L G f (ks.drop i) snr)) (fun v7 _ => M - (intOf v7).toNat)
        case atStart => exact ⟨0, Nat.zero_le _, rfl, sn.set n true, HW3.out.1, HW3.out.2.1, HW3.out.2.2, HC.out, rfl⟩
        case round =>
          obtain ⟨i, hi, rfl, snr, hq⟩ := hrel
          have HQ : Hid (Wk w0 wb sb (.slice (some ⟨b, o, none⟩) L.length vc) L root G cs snr wr ∧ Fr (On sb) w wr ∧ Lc 195 m (Nq.cells ⟨8, c, st, mn, mx, lz, nn, ks⟩ (.slice ka M kc)) wr ∧ snr.count false < f ∧ wlkL L G f ks (sn.set n true) = wlkL L G f (ks.drop i) snr) := hq
          clear hq
          have b0 : wr.cell? ⟨m, 0, none⟩ = some (.int .u8 8) := HQ.out.2.2.1.at rfl
          have b10 : wr.cell? ⟨m, 10, none⟩ = some (.slice ka M kc) := HQ.out.2.2.1.at rfl
          by_cases hlt : i < M
          · have dl : decide ((i : Int) < (M : Int)) = true := decide_eq_true (by omega)
            have dn : decide (i < M) = true := decide_eq_true hlt
            obtain ⟨x, hx⟩ : ∃ x, ks[i]? = some x := ⟨_, List.getElem?_eq_getElem (by have := HM.out; omega)⟩
            obtain ⟨kb, ko, rfl, ck⟩ := (HKS.out.kp HQ.out.1.kp).cell hx
            have hdr : ks.drop i = x :: ks.drop (i + 1) := by
              obtain ⟨hl, he⟩ := List.getElem?_eq_some_iff.1 hx
              rw [← he]; exact List.drop_eq_getElem_cons hl
            obtain ⟨⟨b1, sn2⟩, hw⟩ : ∃ X, wlk L G f x snr = X := ⟨_, rfl⟩
            have HCL : Hid (Calls Tryz.prog 115 #[.pointer (some ⟨wb, 0, none⟩), .int .i64 x] wr fun e w' => e = .returned (.bool b1) ∧ Wk w0 wb sb (.slice (some ⟨b, o, none⟩) L.length vc) L root G cs sn2 w' ∧ Fr (On sb) wr w') := by
              have := HIH.out (k := x) HQ.out.1 HQ.out.2.2.2.1
              rw [hw] at this
              exact this
            have HE : Hid ((wlkL L G f ks (sn.set n true) = if b1 = false then (false, sn2) else wlkL L G f (ks.drop (i + 1)) sn2) ∧ sn2.count false < f) := by
              refine ⟨?_, ?_⟩
              · rw [HQ.out.2.2.2.2, hdr, wlkL, hw]
              · have := ((wlk_keeps (L := L) (G := G) f).1 x snr).2
                rw [hw] at this
                have := HQ.out.2.2.2.1
                simp only at *
                omega
            clear hw hdr hx
            cases b1 with
            | false =>
              have HRX : Hid (R = (false, sn2)) := by
                show _ = _
                rw [HON.out, HE.out.1]; rfl
              go_wp2_with fail
              refine Calls.mono HCL.out ?_
              rintro e w5 ⟨rfl, q1, q2⟩
              have H5 : Hid (Wk w0 wb sb (.slice (some ⟨b, o, none⟩) L.length vc) L root G cs sn2 w5 ∧ Fr (On sb) wr w5) := ⟨q1, q2⟩
              clear q1 q2 b0 b10 ck
              go_wp2_with fail
              go_ret
              rw [HRX.out]
              exact ⟨rfl, H5.out.1, HQ.out.2.1.trans H5.out.2⟩
            | true =>
              go_wp2_with fail
              refine Calls.mono HCL.out ?_
              rintro e w5 ⟨rfl, q1, q2⟩
              have H5 : Hid (Wk w0 wb sb (.slice (some ⟨b, o, none⟩) L.length vc) L root G cs sn2 w5 ∧ Fr (On sb) wr w5) := ⟨q1, q2⟩
              clear q1 q2 b0 b10 ck
              go_wp2_with fail
              go_roundw
              case rel => exact ⟨i + 1, by omega, by go_num, sn2, H5.out.1, HQ.out.2.1.trans H5.out.2, HQ.out.2.2.1.fr H5.out.2 HMS.out, HE.out.2, HE.out.1⟩
              case measure => simp only [intOf]; omega
          · obtain rfl : i = M := by omega
            have dl : decide ((i : Int) < (i : Int)) = false := by simp
            have HRX : Hid (R = (true, snr)) := by
              have e := HQ.out.2.2.2.2
              rw [List.drop_eq_nil_of_le (Nat.le_of_eq HM.out), wlkL] at e
              show _ = _
              rw [HON.out, e, if_neg (by simp), if_neg (by omega)]
            go_wp2_with fail
            go_ret
            rw [HRX.out]
            exact ⟨rfl, HQ.out.1, HQ.out.2.1⟩
    by_cases p9 : op = 9
    · subst p9
      go_upto_region 6 with fail
      clear b0
      obtain ⟨KB, hKB⟩ : ∃ KB, kidsR ⟨9, c, st, mn, mx, lz, nn, ks⟩ = KB := ⟨_, rfl⟩
      have HK : Hid (Calls Tryz.prog 146 #[.agg #[.int .u8 9, .int .u8 c, .int .u64 st.a, .int .u64 st.b, .int .u64 st.c, .int .u64 st.d, .int .i64 mn, .int .i64 mx, .bool lz, .int .i64 nn, .slice ka M kc]] W2.drew fun e w' => e = .returned (.bool KB) ∧ Kp W2.drew w') := by
        have := fkids_any (w := W2.drew) (d := ⟨9, c, st, mn, mx, lz, nn, ks⟩) (kv := .slice ka M kc) (HKS.out.kp (kp_trans H2.out.1.kp (kp_drew _)))
        rw [hKB] at this
        exact this
      have HKB : Hid (kidsR ⟨9, c, st, mn, mx, lz, nn, ks⟩ = KB) := hKB
      clear hKB
      cases KB with
      | false =>
        have HRX : Hid (R = (false, sn.set n true)) := by
          show _ = _
          rw [HR.out]
          exact wlk_bad HB.out HSN.out (by rw [HD.out]; rw [HKB.out]; rfl)
        refine wp_region_noPanic ?_
        refine wp_region_held_drew (S := fun x => Lc 195 m (Nq.cells ⟨9, c, st, mn, mx, lz, nn, ks⟩ (.slice ka M kc)) x ∧ x.cell? ⟨wb, 2, none⟩ = some (.int .i64 G)) (by kernel_rfl) (HS2.out) (fun hHeld => ?_)
        refine takeAt 0 (some 52) (.agg #[.int .u8 9, .int .u8 c, .int .u64 st.a, .int .u64 st.b, .int .u64 st.c, .int .u64 st.d, .int .i64 mn, .int .i64 mx, .bool lz, .int .i64 nn, .slice ka M kc]) rfl rfl (by kernel_rfl) (by kernel_rfl) (by kernel_rfl) (fun _ _ _ h => h) (Or.inl ⟨by rfl, ?_⟩) hHeld ?_
        · intro w hSw
          have x0 : w.cell? ⟨m, 0, none⟩ = _ := hSw.1.at rfl
          have x1 : w.cell? ⟨m, 1, none⟩ = _ := hSw.1.at rfl
          have x2 : w.cell? ⟨m, 2, none⟩ = _ := hSw.1.at rfl
          have x3 : w.cell? ⟨m, 3, none⟩ = _ := hSw.1.at rfl
          have x4 : w.cell? ⟨m, 4, none⟩ = _ := hSw.1.at rfl
          have x5 : w.cell? ⟨m, 5, none⟩ = _ := hSw.1.at rfl
          have x6 : w.cell? ⟨m, 6, none⟩ = _ := hSw.1.at rfl
          have x7 : w.cell? ⟨m, 7, none⟩ = _ := hSw.1.at rfl
          have x8 : w.cell? ⟨m, 8, none⟩ = _ := hSw.1.at rfl
          have x9 : w.cell? ⟨m, 9, none⟩ = _ := hSw.1.at rfl
          have x10 : w.cell? ⟨m, 10, none⟩ = _ := hSw.1.at rfl
          go_simp <;> with_reducible rfl
        try simp only [Act.put, List.setIfInBounds_toArray, List.set_cons_zero, List.set_cons_succ]
        refine callAt 1 53 146 (vals := #[.agg #[.int .u8 9, .int .u8 c, .int .u64 st.a, .int .u64 st.b, .int .u64 st.c, .int .u64 st.d, .int .i64 mn, .int .i64 mx, .bool lz, .int .i64 nn, .slice ka M kc]]) (by kernel_rfl) rfl rfl rfl rfl (by simp [Act.eval]) Tryz.func146 (by kernel_rfl) (by kernel_rfl) ?_
        refine Calls.mono HK.out ?_
        rintro e w3 ⟨rfl, q1⟩
        have H3 : Hid (Kp W2.drew w3) := q1
        clear q1
        refine ⟨_, rfl, ⟨HS2.out.1.kp H3.out, kp_cell H3.out HS2.out.2⟩, fun hHeld => ?_⟩
        try simp only [Act.put, List.setIfInBounds_toArray, List.set_cons_zero, List.set_cons_succ]
        refine takeAt 2 (some 54) ?_ rfl rfl (by kernel_rfl) (by kernel_rfl) (by kernel_rfl) (fun _ _ _ h => h) (Or.inl ⟨by rfl, ?_⟩) hHeld ?_
        rotate_left
        · intro w hSw
          go_simp <;> with_reducible rfl
        try simp only [Act.put, List.setIfInBounds_toArray, List.set_cons_zero, List.set_cons_succ]
        refine takeAt 3 (some 55) ?_ rfl rfl (by kernel_rfl) (by kernel_rfl) (by kernel_rfl) (fun _ _ _ h => h) (Or.inl ⟨by rfl, ?_⟩) hHeld ?_
        rotate_left
        · intro w hSw
          go_simp <;> with_reducible rfl
        try simp only [Act.put, List.setIfInBounds_toArray, List.set_cons_zero, List.set_cons_succ]
        refine takeAt 4 (some 56) undef rfl rfl (by kernel_rfl) (by kernel_rfl) (by kernel_rfl) (fun _ _ _ h => h) (Or.inr ⟨by rfl, rfl⟩) hHeld ?_
        try simp only [Act.put, List.setIfInBounds_toArray, List.set_cons_zero, List.set_cons_succ]
        refine takeAt 5 (some 57) undef rfl rfl (by kernel_rfl) (by kernel_rfl) (by kernel_rfl) (fun _ _ _ h => h) (Or.inr ⟨by rfl, rfl⟩) hHeld ?_
        try simp only [Act.put, List.setIfInBounds_toArray, List.set_cons_zero, List.set_cons_succ]
        refine takeAt 6 (some 58) undef rfl rfl (by kernel_rfl) (by kernel_rfl) (by kernel_rfl) (fun _ _ _ h => h) (Or.inr ⟨by rfl, rfl⟩) hHeld ?_
        try simp only [Act.put, List.setIfInBounds_toArray, List.set_cons_zero, List.set_cons_succ]
        refine takeAt 7 (some 59) undef rfl rfl (by kernel_rfl) (by kernel_rfl) (by kernel_rfl) (fun _ _ _ h => h) (Or.inr ⟨by rfl, rfl⟩) hHeld ?_
        try simp only [Act.put, List.setIfInBounds_toArray, List.set_cons_zero, List.set_cons_succ]
        refine takeAt 8 (some 60) undef rfl rfl (by kernel_rfl) (by kernel_rfl) (by kernel_rfl) (fun _ _ _ h => h) (Or.inr ⟨by rfl, rfl⟩) hHeld ?_
        try simp only [Act.put, List.setIfInBounds_toArray, List.set_cons_zero, List.set_cons_succ]
        refine takeAt 9 (some 61) undef rfl rfl (by kernel_rfl) (by kernel_rfl) (by kernel_rfl) (fun _ _ _ h => h) (Or.inr ⟨by rfl, rfl⟩) hHeld ?_
        try simp only [Act.put, List.setIfInBounds_toArray, List.set_cons_zero, List.set_cons_succ]
        refine takeAt 10 (some 62) undef rfl rfl (by kernel_rfl) (by kernel_rfl) (by kernel_rfl) (fun _ _ _ h => h) (Or.inr ⟨by rfl, rfl⟩) hHeld ?_
        try simp only [Act.put, List.setIfInBounds_toArray, List.set_cons_zero, List.set_cons_succ]
        refine takeAt 11 (some 63) undef rfl rfl (by kernel_rfl) (by kernel_rfl) (by kernel_rfl) (fun _ _ _ h => h) (Or.inr ⟨by rfl, rfl⟩) hHeld ?_
        try simp only [Act.put, List.setIfInBounds_toArray, List.set_cons_zero, List.set_cons_succ]
        refine takeAt 12 (some 64) undef rfl rfl (by kernel_rfl) (by kernel_rfl) (by kernel_rfl) (fun _ _ _ h => h) (Or.inr ⟨by rfl, rfl⟩) hHeld ?_
        try simp only [Act.put, List.setIfInBounds_toArray, List.set_cons_zero, List.set_cons_succ]
        refine takeAt 13 (some 65) undef rfl rfl (by kernel_rfl) (by kernel_rfl) (by kernel_rfl) (fun _ _ _ h => h) (Or.inr ⟨by rfl, rfl⟩) hHeld ?_
        try simp only [Act.put, List.setIfInBounds_toArray, List.set_cons_zero, List.set_cons_succ]
        refine takeAt 14 (some 66) undef rfl rfl (by kernel_rfl) (by kernel_rfl) (by kernel_rfl) (fun _ _ _ h => h) (Or.inr ⟨by rfl, rfl⟩) hHeld ?_
        try simp only [Act.put, List.setIfInBounds_toArray, List.set_cons_zero, List.set_cons_succ]
        refine takeAt 15 (some 67) undef rfl rfl (by kernel_rfl) (by kernel_rfl) (by kernel_rfl) (fun _ _ _ h => h) (Or.inr ⟨by rfl, rfl⟩) hHeld ?_
        try simp only [Act.put, List.setIfInBounds_toArray, List.set_cons_zero, List.set_cons_succ]
        refine takeAt 16 (some 68) undef rfl rfl (by kernel_rfl) (by kernel_rfl) (by kernel_rfl) (fun _ _ _ h => h) (Or.inr ⟨by rfl, rfl⟩) hHeld ?_
        try simp only [Act.put, List.setIfInBounds_toArray, List.set_cons_zero, List.set_cons_succ]
        refine takeAt 17 (some 69) undef rfl rfl (by kernel_rfl) (by kernel_rfl) (by kernel_rfl) (fun _ _ _ h => h) (Or.inr ⟨by rfl, rfl⟩) hHeld ?_
        try simp only [Act.put, List.setIfInBounds_toArray, List.set_cons_zero, List.set_cons_succ]
        refine takeAt 18 (some 70) undef rfl rfl (by kernel_rfl) (by kernel_rfl) (by kernel_rfl) (fun _ _ _ h => h) (Or.inr ⟨by rfl, rfl⟩) hHeld ?_
        try simp only [Act.put, List.setIfInBounds_toArray, List.set_cons_zero, List.set_cons_succ]
        refine takeAt 19 (some 71) undef rfl rfl (by kernel_rfl) (by kernel_rfl) (by kernel_rfl) (fun _ _ _ h => h) (Or.inr ⟨by rfl, rfl⟩) hHeld ?_
        try simp only [Act.put, List.setIfInBounds_toArray, List.set_cons_zero, List.set_cons_succ]
        refine takeAt 20 (some 72) ?_ rfl rfl (by kernel_rfl) (by kernel_rfl) (by kernel_rfl) (fun _ _ _ h => h) (Or.inl ⟨by rfl, ?_⟩) hHeld ?_
        rotate_left
        · intro w hSw
          go_simp <;> with_reducible rfl
        try simp only [Act.put, List.setIfInBounds_toArray, List.set_cons_zero, List.set_cons_succ]
        refine wpAnyH_done (by kernel_rfl) ?_ _
        refine NoPanic.normal ?_
        have HW3 : Hid (Wk w0 wb sb (.slice (some ⟨b, o, none⟩) L.length vc) L root G cs (sn.set n true) w3 ∧ Fr (On sb) w w3 ) := by
          have k3 := kp_trans (kp_drew W2) H3.out
          exact ⟨H2.out.1.kpp k3, H2.out.2.1.trans (Fr.of_below k3)⟩
        go_wp2_with fail
        go_ret
        rw [HRX.out]
        exact ⟨rfl, HW3.out.1, HW3.out.2⟩
      | true =>
        by_cases t1 : nn < 1
        · have g1 : decide (nn < 1) = true := decide_eq_true t1
          have HRX : Hid (R = (false, sn.set n true)) := by
            show _ = _
            rw [HR.out]
            exact wlk_bad HB.out HSN.out (by rw [HD.out]; rw [show numbR G ⟨9, c, st, mn, mx, lz, nn, ks⟩ = false by unfold numbR; rw [if_pos (by simp)]; exact decide_eq_false (by simp only; omega)]; simp)
          refine wp_region_noPanic ?_
          refine wp_region_held_drew (S := fun x => Lc 195 m (Nq.cells ⟨9, c, st, mn, mx, lz, nn, ks⟩ (.slice ka M kc)) x ∧ x.cell? ⟨wb, 2, none⟩ = some (.int .i64 G)) (by kernel_rfl) (HS2.out) (fun hHeld => ?_)
          refine takeAt 0 (some 52) (.agg #[.int .u8 9, .int .u8 c, .int .u64 st.a, .int .u64 st.b, .int .u64 st.c, .int .u64 st.d, .int .i64 mn, .int .i64 mx, .bool lz, .int .i64 nn, .slice ka M kc]) rfl rfl (by kernel_rfl) (by kernel_rfl) (by kernel_rfl) (fun _ _ _ h => h) (Or.inl ⟨by rfl, ?_⟩) hHeld ?_
          · intro w hSw
            have x0 : w.cell? ⟨m, 0, none⟩ = _ := hSw.1.at rfl
            have x1 : w.cell? ⟨m, 1, none⟩ = _ := hSw.1.at rfl
            have x2 : w.cell? ⟨m, 2, none⟩ = _ := hSw.1.at rfl
            have x3 : w.cell? ⟨m, 3, none⟩ = _ := hSw.1.at rfl
            have x4 : w.cell? ⟨m, 4, none⟩ = _ := hSw.1.at rfl
            have x5 : w.cell? ⟨m, 5, none⟩ = _ := hSw.1.at rfl
            have x6 : w.cell? ⟨m, 6, none⟩ = _ := hSw.1.at rfl
            have x7 : w.cell? ⟨m, 7, none⟩ = _ := hSw.1.at rfl
            have x8 : w.cell? ⟨m, 8, none⟩ = _ := hSw.1.at rfl
            have x9 : w.cell? ⟨m, 9, none⟩ = _ := hSw.1.at rfl
            have x10 : w.cell? ⟨m, 10, none⟩ = _ := hSw.1.at rfl
            go_simp <;> with_reducible rfl
          try simp only [Act.put, List.setIfInBounds_toArray, List.set_cons_zero, List.set_cons_succ]
          refine callAt 1 53 146 (vals := #[.agg #[.int .u8 9, .int .u8 c, .int .u64 st.a, .int .u64 st.b, .int .u64 st.c, .int .u64 st.d, .int .i64 mn, .int .i64 mx, .bool lz, .int .i64 nn, .slice ka M kc]]) (by kernel_rfl) rfl rfl rfl rfl (by simp [Act.eval]) Tryz.func146 (by kernel_rfl) (by kernel_rfl) ?_
          refine Calls.mono HK.out ?_
          rintro e w3 ⟨rfl, q1⟩
          have H3 : Hid (Kp W2.drew w3) := q1
          clear q1
          refine ⟨_, rfl, ⟨HS2.out.1.kp H3.out, kp_cell H3.out HS2.out.2⟩, fun hHeld => ?_⟩
          try simp only [Act.put, List.setIfInBounds_toArray, List.set_cons_zero, List.set_cons_succ]
          refine takeAt 2 (some 54) ?_ rfl rfl (by kernel_rfl) (by kernel_rfl) (by kernel_rfl) (fun _ _ _ h => h) (Or.inl ⟨by rfl, ?_⟩) hHeld ?_
          rotate_left
          · intro w hSw
            go_simp <;> with_reducible rfl
          try simp only [Act.put, List.setIfInBounds_toArray, List.set_cons_zero, List.set_cons_succ]
          refine takeAt 3 (some 55) ?_ rfl rfl (by kernel_rfl) (by kernel_rfl) (by kernel_rfl) (fun _ _ _ h => h) (Or.inl ⟨by rfl, ?_⟩) hHeld ?_
          rotate_left
          · intro w hSw
            go_simp <;> with_reducible rfl
          try simp only [Act.put, List.setIfInBounds_toArray, List.set_cons_zero, List.set_cons_succ]
          refine takeAt 4 (some 56) ?_ rfl rfl (by kernel_rfl) (by kernel_rfl) (by kernel_rfl) (fun _ _ _ h => h) (Or.inl ⟨by rfl, ?_⟩) hHeld ?_
          rotate_left
          · intro w hSw
            go_simp <;> with_reducible rfl
          try simp only [Act.put, List.setIfInBounds_toArray, List.set_cons_zero, List.set_cons_succ]
          refine takeAt 5 (some 57) ?_ rfl rfl (by kernel_rfl) (by kernel_rfl) (by kernel_rfl) (fun _ _ _ h => h) (Or.inl ⟨by rfl, ?_⟩) hHeld ?_
          rotate_left
          · intro w hSw
            go_simp <;> with_reducible rfl
          try simp only [Act.put, List.setIfInBounds_toArray, List.set_cons_zero, List.set_cons_succ]
          refine takeAt 6 (some 58) ?_ rfl rfl (by kernel_rfl) (by kernel_rfl) (by kernel_rfl) (fun _ _ _ h => h) (Or.inl ⟨by rfl, ?_⟩) hHeld ?_
          rotate_left
          · intro w hSw
            go_simp <;> with_reducible rfl
          try simp only [Act.put, List.setIfInBounds_toArray, List.set_cons_zero, List.set_cons_succ]
          refine takeAt 7 (some 59) (.int .i64 nn) rfl rfl (by kernel_rfl) (by kernel_rfl) (by kernel_rfl) (fun _ _ _ h => h) (Or.inl ⟨by rfl, ?_⟩) hHeld ?_
          · intro w hSw
            have x9 : w.cell? ⟨m, 9, none⟩ = _ := hSw.1.at rfl
            go_simp <;> with_reducible rfl
          try simp only [Act.put, List.setIfInBounds_toArray, List.set_cons_zero, List.set_cons_succ]
          refine takeAt 8 (some 60) ?_ rfl rfl (by kernel_rfl) (by kernel_rfl) (by kernel_rfl) (fun _ _ _ h => h) (Or.inl ⟨by rfl, ?_⟩) hHeld ?_
          rotate_left
          · intro w hSw
            go_simp <;> with_reducible rfl
          try simp only [Act.put, List.setIfInBounds_toArray, List.set_cons_zero, List.set_cons_succ]
          refine takeAt 9 (some 61) ?_ rfl rfl (by kernel_rfl) (by kernel_rfl) (by kernel_rfl) (fun _ _ _ h => h) (Or.inl ⟨by rfl, ?_⟩) hHeld ?_
          rotate_left
          · intro w hSw
            go_simp <;> with_reducible rfl
          try simp only [Act.put, List.setIfInBounds_toArray, List.set_cons_zero, List.set_cons_succ]
          refine takeAt 10 (some 62) undef rfl rfl (by kernel_rfl) (by kernel_rfl) (by kernel_rfl) (fun _ _ _ h => h) (Or.inr ⟨by rfl, rfl⟩) hHeld ?_
          try simp only [Act.put, List.setIfInBounds_toArray, List.set_cons_zero, List.set_cons_succ]
          refine takeAt 11 (some 63) undef rfl rfl (by kernel_rfl) (by kernel_rfl) (by kernel_rfl) (fun _ _ _ h => h) (Or.inr ⟨by rfl, rfl⟩) hHeld ?_
          try simp only [Act.put, List.setIfInBounds_toArray, List.set_cons_zero, List.set_cons_succ]
          refine takeAt 12 (some 64) undef rfl rfl (by kernel_rfl) (by kernel_rfl) (by kernel_rfl) (fun _ _ _ h => h) (Or.inr ⟨by rfl, rfl⟩) hHeld ?_
          try simp only [Act.put, List.setIfInBounds_toArray, List.set_cons_zero, List.set_cons_succ]
          refine takeAt 13 (some 65) undef rfl rfl (by kernel_rfl) (by kernel_rfl) (by kernel_rfl) (fun _ _ _ h => h) (Or.inr ⟨by rfl, rfl⟩) hHeld ?_
          try simp only [Act.put, List.setIfInBounds_toArray, List.set_cons_zero, List.set_cons_succ]
          refine takeAt 14 (some 66) undef rfl rfl (by kernel_rfl) (by kernel_rfl) (by kernel_rfl) (fun _ _ _ h => h) (Or.inr ⟨by rfl, rfl⟩) hHeld ?_
          try simp only [Act.put, List.setIfInBounds_toArray, List.set_cons_zero, List.set_cons_succ]
          refine takeAt 15 (some 67) undef rfl rfl (by kernel_rfl) (by kernel_rfl) (by kernel_rfl) (fun _ _ _ h => h) (Or.inr ⟨by rfl, rfl⟩) hHeld ?_
          try simp only [Act.put, List.setIfInBounds_toArray, List.set_cons_zero, List.set_cons_succ]
          refine takeAt 16 (some 68) undef rfl rfl (by kernel_rfl) (by kernel_rfl) (by kernel_rfl) (fun _ _ _ h => h) (Or.inr ⟨by rfl, rfl⟩) hHeld ?_
          try simp only [Act.put, List.setIfInBounds_toArray, List.set_cons_zero, List.set_cons_succ]
          refine takeAt 17 (some 69) undef rfl rfl (by kernel_rfl) (by kernel_rfl) (by kernel_rfl) (fun _ _ _ h => h) (Or.inr ⟨by rfl, rfl⟩) hHeld ?_
          try simp only [Act.put, List.setIfInBounds_toArray, List.set_cons_zero, List.set_cons_succ]
          refine takeAt 18 (some 70) ?_ rfl rfl (by kernel_rfl) (by kernel_rfl) (by kernel_rfl) (fun _ _ _ h => h) (Or.inl ⟨by rfl, ?_⟩) hHeld ?_
          rotate_left
          · intro w hSw
            go_simp <;> with_reducible rfl
          try simp only [Act.put, List.setIfInBounds_toArray, List.set_cons_zero, List.set_cons_succ]
          refine takeAt 19 (some 71) ?_ rfl rfl (by kernel_rfl) (by kernel_rfl) (by kernel_rfl) (fun _ _ _ h => h) (Or.inl ⟨by rfl, ?_⟩) hHeld ?_
          rotate_left
          · intro w hSw
            go_simp <;> with_reducible rfl
          try simp only [Act.put, List.setIfInBounds_toArray, List.set_cons_zero, List.set_cons_succ]
          refine takeAt 20 (some 72) ?_ rfl rfl (by kernel_rfl) (by kernel_rfl) (by kernel_rfl) (fun _ _ _ h => h) (Or.inl ⟨by rfl, ?_⟩) hHeld ?_
          rotate_left
          · intro w hSw
            go_simp <;> with_reducible rfl
          try simp only [Act.put, List.setIfInBounds_toArray, List.set_cons_zero, List.set_cons_succ]
          refine wpAnyH_done (by kernel_rfl) ?_ _
          refine NoPanic.normal ?_
          have HW3 : Hid (Wk w0 wb sb (.slice (some ⟨b, o, none⟩) L.length vc) L root G cs (sn.set n true) w3 ∧ Fr (On sb) w w3 ∧ Lc 195 m (Nq.cells ⟨9, c, st, mn, mx, lz, nn, ks⟩ (.slice ka M kc)) w3) := by
            have k3 := kp_trans (kp_drew W2) H3.out
            exact ⟨H2.out.1.kpp k3, H2.out.2.1.trans (Fr.of_below k3), H2.out.2.2.kp k3⟩
          go_wp2_with fail
          go_ret
          rw [HRX.out]
          exact ⟨rfl, HW3.out.1, HW3.out.2.1⟩
        have g1 : decide (nn < 1) = false := decide_eq_false t1
        by_cases t2 : G < nn
        · have g2 : decide (nn > G) = true := decide_eq_true t2
          have g2' : decide (G < nn) = true := decide_eq_true t2
          have HRX : Hid (R = (false, sn.set n true)) := by
            show _ = _
            rw [HR.out]
            exact wlk_bad HB.out HSN.out (by rw [HD.out]; rw [show numbR G ⟨9, c, st, mn, mx, lz, nn, ks⟩ = false by unfold numbR; rw [if_pos (by simp)]; exact decide_eq_false (by simp only; omega)]; simp)
          refine wp_region_noPanic ?_
          refine wp_region_held_drew (S := fun x => Lc 195 m (Nq.cells ⟨9, c, st, mn, mx, lz, nn, ks⟩ (.slice ka M kc)) x ∧ x.cell? ⟨wb, 2, none⟩ = some (.int .i64 G)) (by kernel_rfl) (HS2.out) (fun hHeld => ?_)
          refine takeAt 0 (some 52) (.agg #[.int .u8 9, .int .u8 c, .int .u64 st.a, .int .u64 st.b, .int .u64 st.c, .int .u64 st.d, .int .i64 mn, .int .i64 mx, .bool lz, .int .i64 nn, .slice ka M kc]) rfl rfl (by kernel_rfl) (by kernel_rfl) (by kernel_rfl) (fun _ _ _ h => h) (Or.inl ⟨by rfl, ?_⟩) hHeld ?_
          · intro w hSw
            have x0 : w.cell? ⟨m, 0, none⟩ = _ := hSw.1.at rfl
            have x1 : w.cell? ⟨m, 1, none⟩ = _ := hSw.1.at rfl
            have x2 : w.cell? ⟨m, 2, none⟩ = _ := hSw.1.at rfl
            have x3 : w.cell? ⟨m, 3, none⟩ = _ := hSw.1.at rfl
            have x4 : w.cell? ⟨m, 4, none⟩ = _ := hSw.1.at rfl
            have x5 : w.cell? ⟨m, 5, none⟩ = _ := hSw.1.at rfl
            have x6 : w.cell? ⟨m, 6, none⟩ = _ := hSw.1.at rfl
            have x7 : w.cell? ⟨m, 7, none⟩ = _ := hSw.1.at rfl
            have x8 : w.cell? ⟨m, 8, none⟩ = _ := hSw.1.at rfl
            have x9 : w.cell? ⟨m, 9, none⟩ = _ := hSw.1.at rfl
            have x10 : w.cell? ⟨m, 10, none⟩ = _ := hSw.1.at rfl
            go_simp <;> with_reducible rfl
          try simp only [Act.put, List.setIfInBounds_toArray, List.set_cons_zero, List.set_cons_succ]
          refine callAt 1 53 146 (vals := #[.agg #[.int .u8 9, .int .u8 c, .int .u64 st.a, .int .u64 st.b, .int .u64 st.c, .int .u64 st.d, .int .i64 mn, .int .i64 mx, .bool lz, .int .i64 nn, .slice ka M kc]]) (by kernel_rfl) rfl rfl rfl rfl (by simp [Act.eval]) Tryz.func146 (by kernel_rfl) (by kernel_rfl) ?_
          refine Calls.mono HK.out ?_
          rintro e w3 ⟨rfl, q1⟩
          have H3 : Hid (Kp W2.drew w3) := q1
          clear q1
          refine ⟨_, rfl, ⟨HS2.out.1.kp H3.out, kp_cell H3.out HS2.out.2⟩, fun hHeld => ?_⟩
          try simp only [Act.put, List.setIfInBounds_toArray, List.set_cons_zero, List.set_cons_succ]
          refine takeAt 2 (some 54) ?_ rfl rfl (by kernel_rfl) (by kernel_rfl) (by kernel_rfl) (fun _ _ _ h => h) (Or.inl ⟨by rfl, ?_⟩) hHeld ?_
          rotate_left
          · intro w hSw
            go_simp <;> with_reducible rfl
          try simp only [Act.put, List.setIfInBounds_toArray, List.set_cons_zero, List.set_cons_succ]
          refine takeAt 3 (some 55) ?_ rfl rfl (by kernel_rfl) (by kernel_rfl) (by kernel_rfl) (fun _ _ _ h => h) (Or.inl ⟨by rfl, ?_⟩) hHeld ?_
          rotate_left
          · intro w hSw
            go_simp <;> with_reducible rfl
          try simp only [Act.put, List.setIfInBounds_toArray, List.set_cons_zero, List.set_cons_succ]
          refine takeAt 4 (some 56) ?_ rfl rfl (by kernel_rfl) (by kernel_rfl) (by kernel_rfl) (fun _ _ _ h => h) (Or.inl ⟨by rfl, ?_⟩) hHeld ?_
          rotate_left
          · intro w hSw
            go_simp <;> with_reducible rfl
          try simp only [Act.put, List.setIfInBounds_toArray, List.set_cons_zero, List.set_cons_succ]
          refine takeAt 5 (some 57) ?_ rfl rfl (by kernel_rfl) (by kernel_rfl) (by kernel_rfl) (fun _ _ _ h => h) (Or.inl ⟨by rfl, ?_⟩) hHeld ?_
          rotate_left
          · intro w hSw
            go_simp <;> with_reducible rfl
          try simp only [Act.put, List.setIfInBounds_toArray, List.set_cons_zero, List.set_cons_succ]
          refine takeAt 6 (some 58) ?_ rfl rfl (by kernel_rfl) (by kernel_rfl) (by kernel_rfl) (fun _ _ _ h => h) (Or.inl ⟨by rfl, ?_⟩) hHeld ?_
          rotate_left
          · intro w hSw
            go_simp <;> with_reducible rfl
          try simp only [Act.put, List.setIfInBounds_toArray, List.set_cons_zero, List.set_cons_succ]
          refine takeAt 7 (some 59) (.int .i64 nn) rfl rfl (by kernel_rfl) (by kernel_rfl) (by kernel_rfl) (fun _ _ _ h => h) (Or.inl ⟨by rfl, ?_⟩) hHeld ?_
          · intro w hSw
            have x9 : w.cell? ⟨m, 9, none⟩ = _ := hSw.1.at rfl
            go_simp <;> with_reducible rfl
          try simp only [Act.put, List.setIfInBounds_toArray, List.set_cons_zero, List.set_cons_succ]
          refine takeAt 8 (some 60) ?_ rfl rfl (by kernel_rfl) (by kernel_rfl) (by kernel_rfl) (fun _ _ _ h => h) (Or.inl ⟨by rfl, ?_⟩) hHeld ?_
          rotate_left
          · intro w hSw
            go_simp <;> with_reducible rfl
          try simp only [Act.put, List.setIfInBounds_toArray, List.set_cons_zero, List.set_cons_succ]
          refine takeAt 9 (some 61) ?_ rfl rfl (by kernel_rfl) (by kernel_rfl) (by kernel_rfl) (fun _ _ _ h => h) (Or.inl ⟨by rfl, ?_⟩) hHeld ?_
          rotate_left
          · intro w hSw
            go_simp <;> with_reducible rfl
          try simp only [Act.put, List.setIfInBounds_toArray, List.set_cons_zero, List.set_cons_succ]
          refine takeAt 10 (some 62) ?_ rfl rfl (by kernel_rfl) (by kernel_rfl) (by kernel_rfl) (fun _ _ _ h => h) (Or.inl ⟨by rfl, ?_⟩) hHeld ?_
          rotate_left
          · intro w hSw
            go_simp <;> with_reducible rfl
          try simp only [Act.put, List.setIfInBounds_toArray, List.set_cons_zero, List.set_cons_succ]
          refine takeAt 11 (some 63) (.int .i64 nn) rfl rfl (by kernel_rfl) (by kernel_rfl) (by kernel_rfl) (fun _ _ _ h => h) (Or.inl ⟨by rfl, ?_⟩) hHeld ?_
          · intro w hSw
            have x9 : w.cell? ⟨m, 9, none⟩ = _ := hSw.1.at rfl
            go_simp <;> with_reducible rfl
          try simp only [Act.put, List.setIfInBounds_toArray, List.set_cons_zero, List.set_cons_succ]
          refine takeAt 12 (some 64) ?_ rfl rfl (by kernel_rfl) (by kernel_rfl) (by kernel_rfl) (fun _ _ _ h => h) (Or.inl ⟨by rfl, ?_⟩) hHeld ?_
          rotate_left
          · intro w hSw
            go_simp <;> with_reducible rfl
          try simp only [Act.put, List.setIfInBounds_toArray, List.set_cons_zero, List.set_cons_succ]
          refine takeAt 13 (some 65) ?_ rfl rfl (by kernel_rfl) (by kernel_rfl) (by kernel_rfl) (fun _ _ _ h => h) (Or.inl ⟨by rfl, ?_⟩) hHeld ?_
          rotate_left
          · intro w hSw
            go_simp <;> with_reducible rfl
          try simp only [Act.put, List.setIfInBounds_toArray, List.set_cons_zero, List.set_cons_succ]
          refine takeAt 14 (some 66) ?_ rfl rfl (by kernel_rfl) (by kernel_rfl) (by kernel_rfl) (fun _ _ _ h => h) (Or.inl ⟨by rfl, ?_⟩) hHeld ?_
          rotate_left
          · intro w hSw
            go_simp <;> with_reducible rfl
          try simp only [Act.put, List.setIfInBounds_toArray, List.set_cons_zero, List.set_cons_succ]
          refine takeAt 15 (some 67) ?_ rfl rfl (by kernel_rfl) (by kernel_rfl) (by kernel_rfl) (fun _ _ _ h => h) (Or.inl ⟨by rfl, ?_⟩) hHeld ?_
          rotate_left
          · intro w hSw
            go_simp <;> with_reducible rfl
          try simp only [Act.put, List.setIfInBounds_toArray, List.set_cons_zero, List.set_cons_succ]
          refine takeAt 16 (some 68) (.int .i64 G) rfl rfl (by kernel_rfl) (by kernel_rfl) (by kernel_rfl) (fun _ _ _ h => h) (Or.inl ⟨by rfl, ?_⟩) hHeld ?_
          · intro w hSw
            have g2 := hSw.2
            go_simp <;> with_reducible rfl
          try simp only [Act.put, List.setIfInBounds_toArray, List.set_cons_zero, List.set_cons_succ]
          refine takeAt 17 (some 69) ?_ rfl rfl (by kernel_rfl) (by kernel_rfl) (by kernel_rfl) (fun _ _ _ h => h) (Or.inl ⟨by rfl, ?_⟩) hHeld ?_
          rotate_left
          · intro w hSw
            go_simp <;> with_reducible rfl
          try simp only [Act.put, List.setIfInBounds_toArray, List.set_cons_zero, List.set_cons_succ]
          refine takeAt 18 (some 70) ?_ rfl rfl (by kernel_rfl) (by kernel_rfl) (by kernel_rfl) (fun _ _ _ h => h) (Or.inl ⟨by rfl, ?_⟩) hHeld ?_
          rotate_left
          · intro w hSw
            go_simp <;> with_reducible rfl
          try simp only [Act.put, List.setIfInBounds_toArray, List.set_cons_zero, List.set_cons_succ]
          refine takeAt 19 (some 71) ?_ rfl rfl (by kernel_rfl) (by kernel_rfl) (by kernel_rfl) (fun _ _ _ h => h) (Or.inl ⟨by rfl, ?_⟩) hHeld ?_
          rotate_left
          · intro w hSw
            go_simp <;> with_reducible rfl
          try simp only [Act.put, List.setIfInBounds_toArray, List.set_cons_zero, List.set_cons_succ]
          refine takeAt 20 (some 72) ?_ rfl rfl (by kernel_rfl) (by kernel_rfl) (by kernel_rfl) (fun _ _ _ h => h) (Or.inl ⟨by rfl, ?_⟩) hHeld ?_
          rotate_left
          · intro w hSw
            go_simp <;> with_reducible rfl
          try simp only [Act.put, List.setIfInBounds_toArray, List.set_cons_zero, List.set_cons_succ]
          refine wpAnyH_done (by kernel_rfl) ?_ _
          refine NoPanic.normal ?_
          have HW3 : Hid (Wk w0 wb sb (.slice (some ⟨b, o, none⟩) L.length vc) L root G cs (sn.set n true) w3 ∧ Fr (On sb) w w3 ∧ Lc 195 m (Nq.cells ⟨9, c, st, mn, mx, lz, nn, ks⟩ (.slice ka M kc)) w3) := by
            have k3 := kp_trans (kp_drew W2) H3.out
            exact ⟨H2.out.1.kpp k3, H2.out.2.1.trans (Fr.of_below k3), H2.out.2.2.kp k3⟩
          go_wp2_with fail
          go_ret
          rw [HRX.out]
          exact ⟨rfl, HW3.out.1, HW3.out.2.1⟩
        have g2 : decide (nn > G) = false := decide_eq_false t2
        have g2' : decide (G < nn) = false := decide_eq_false t2
        have HON : Hid (R = if (wlkL L G f ks (sn.set n true)).1 = false then (false, (wlkL L G f ks (sn.set n true)).2) else (if 9 = 7 then sngR L (nodeAt L (ks.headD 0)) else true, (wlkL L G f ks (sn.set n true)).2)) := by
          show _ = _
          have := wlk_on (G := G) (f := f) HB.out HSN.out (by rw [HD.out]; rw [HKB.out, show numbR G ⟨9, c, st, mn, mx, lz, nn, ks⟩ = true by unfold numbR; rw [if_pos (by simp)]; exact decide_eq_true (by simp only; omega)]; rfl)
          rw [HD.out] at this
          rw [HR.out]
          exact this
        refine wp_region_noPanic ?_
        refine wp_region_held_drew (S := fun x => Lc 195 m (Nq.cells ⟨9, c, st, mn, mx, lz, nn, ks⟩ (.slice ka M kc)) x ∧ x.cell? ⟨wb, 2, none⟩ = some (.int .i64 G)) (by kernel_rfl) (HS2.out) (fun hHeld => ?_)
        refine takeAt 0 (some 52) (.agg #[.int .u8 9, .int .u8 c, .int .u64 st.a, .int .u64 st.b, .int .u64 st.c, .int .u64 st.d, .int .i64 mn, .int .i64 mx, .bool lz, .int .i64 nn, .slice ka M kc]) rfl rfl (by kernel_rfl) (by kernel_rfl) (by kernel_rfl) (fun _ _ _ h => h) (Or.inl ⟨by rfl, ?_⟩) hHeld ?_
        · intro w hSw
          have x0 : w.cell? ⟨m, 0, none⟩ = _ := hSw.1.at rfl
          have x1 : w.cell? ⟨m, 1, none⟩ = _ := hSw.1.at rfl
          have x2 : w.cell? ⟨m, 2, none⟩ = _ := hSw.1.at rfl
          have x3 : w.cell? ⟨m, 3, none⟩ = _ := hSw.1.at rfl
          have x4 : w.cell? ⟨m, 4, none⟩ = _ := hSw.1.at rfl
          have x5 : w.cell? ⟨m, 5, none⟩ = _ := hSw.1.at rfl
          have x6 : w.cell? ⟨m, 6, none⟩ = _ := hSw.1.at rfl
          have x7 : w.cell? ⟨m, 7, none⟩ = _ := hSw.1.at rfl
          have x8 : w.cell? ⟨m, 8, none⟩ = _ := hSw.1.at rfl
          have x9 : w.cell? ⟨m, 9, none⟩ = _ := hSw.1.at rfl
          have x10 : w.cell? ⟨m, 10, none⟩ = _ := hSw.1.at rfl
          go_simp <;> with_reducible rfl
        try simp only [Act.put, List.setIfInBounds_toArray, List.set_cons_zero, List.set_cons_succ]
        refine callAt 1 53 146 (vals := #[.agg #[.int .u8 9, .int .u8 c, .int .u64 st.a, .int .u64 st.b, .int .u64 st.c, .int .u64 st.d, .int .i64 mn, .int .i64 mx, .bool lz, .int .i64 nn, .slice ka M kc]]) (by kernel_rfl) rfl rfl rfl rfl (by simp [Act.eval]) Tryz.func146 (by kernel_rfl) (by kernel_rfl) ?_
        refine Calls.mono HK.out ?_
        rintro e w3 ⟨rfl, q1⟩
        have H3 : Hid (Kp W2.drew w3) := q1
        clear q1
        refine ⟨_, rfl, ⟨HS2.out.1.kp H3.out, kp_cell H3.out HS2.out.2⟩, fun hHeld => ?_⟩
        try simp only [Act.put, List.setIfInBounds_toArray, List.set_cons_zero, List.set_cons_succ]
        refine takeAt 2 (some 54) ?_ rfl rfl (by kernel_rfl) (by kernel_rfl) (by kernel_rfl) (fun _ _ _ h => h) (Or.inl ⟨by rfl, ?_⟩) hHeld ?_
        rotate_left
        · intro w hSw
          go_simp <;> with_reducible rfl
        try simp only [Act.put, List.setIfInBounds_toArray, List.set_cons_zero, List.set_cons_succ]
        refine takeAt 3 (some 55) ?_ rfl rfl (by kernel_rfl) (by kernel_rfl) (by kernel_rfl) (fun _ _ _ h => h) (Or.inl ⟨by rfl, ?_⟩) hHeld ?_
        rotate_left
        · intro w hSw
          go_simp <;> with_reducible rfl
        try simp only [Act.put, List.setIfInBounds_toArray, List.set_cons_zero, List.set_cons_succ]
        refine takeAt 4 (some 56) ?_ rfl rfl (by kernel_rfl) (by kernel_rfl) (by kernel_rfl) (fun _ _ _ h => h) (Or.inl ⟨by rfl, ?_⟩) hHeld ?_
        rotate_left
        · intro w hSw
          go_simp <;> with_reducible rfl
        try simp only [Act.put, List.setIfInBounds_toArray, List.set_cons_zero, List.set_cons_succ]
        refine takeAt 5 (some 57) ?_ rfl rfl (by kernel_rfl) (by kernel_rfl) (by kernel_rfl) (fun _ _ _ h => h) (Or.inl ⟨by rfl, ?_⟩) hHeld ?_
        rotate_left
        · intro w hSw
          go_simp <;> with_reducible rfl
        try simp only [Act.put, List.setIfInBounds_toArray, List.set_cons_zero, List.set_cons_succ]
        refine takeAt 6 (some 58) ?_ rfl rfl (by kernel_rfl) (by kernel_rfl) (by kernel_rfl) (fun _ _ _ h => h) (Or.inl ⟨by rfl, ?_⟩) hHeld ?_
        rotate_left
        · intro w hSw
          go_simp <;> with_reducible rfl
        try simp only [Act.put, List.setIfInBounds_toArray, List.set_cons_zero, List.set_cons_succ]
        refine takeAt 7 (some 59) (.int .i64 nn) rfl rfl (by kernel_rfl) (by kernel_rfl) (by kernel_rfl) (fun _ _ _ h => h) (Or.inl ⟨by rfl, ?_⟩) hHeld ?_
        · intro w hSw
          have x9 : w.cell? ⟨m, 9, none⟩ = _ := hSw.1.at rfl
          go_simp <;> with_reducible rfl
        try simp only [Act.put, List.setIfInBounds_toArray, List.set_cons_zero, List.set_cons_succ]
        refine takeAt 8 (some 60) ?_ rfl rfl (by kernel_rfl) (by kernel_rfl) (by kernel_rfl) (fun _ _ _ h => h) (Or.inl ⟨by rfl, ?_⟩) hHeld ?_
        rotate_left
        · intro w hSw
          go_simp <;> with_reducible rfl
        try simp only [Act.put, List.setIfInBounds_toArray, List.set_cons_zero, List.set_cons_succ]
        refine takeAt 9 (some 61) ?_ rfl rfl (by kernel_rfl) (by kernel_rfl) (by kernel_rfl) (fun _ _ _ h => h) (Or.inl ⟨by rfl, ?_⟩) hHeld ?_
        rotate_left
        · intro w hSw
          go_simp <;> with_reducible rfl
        try simp only [Act.put, List.setIfInBounds_toArray, List.set_cons_zero, List.set_cons_succ]
        refine takeAt 10 (some 62) ?_ rfl rfl (by kernel_rfl) (by kernel_rfl) (by kernel_rfl) (fun _ _ _ h => h) (Or.inl ⟨by rfl, ?_⟩) hHeld ?_
        rotate_left
        · intro w hSw
          go_simp <;> with_reducible rfl
        try simp only [Act.put, List.setIfInBounds_toArray, List.set_cons_zero, List.set_cons_succ]
        refine takeAt 11 (some 63) (.int .i64 nn) rfl rfl (by kernel_rfl) (by kernel_rfl) (by kernel_rfl) (fun _ _ _ h => h) (Or.inl ⟨by rfl, ?_⟩) hHeld ?_
        · intro w hSw
          have x9 : w.cell? ⟨m, 9, none⟩ = _ := hSw.1.at rfl
          go_simp <;> with_reducible rfl
        try simp only [Act.put, List.setIfInBounds_toArray, List.set_cons_zero, List.set_cons_succ]
        refine takeAt 12 (some 64) ?_ rfl rfl (by kernel_rfl) (by kernel_rfl) (by kernel_rfl) (fun _ _ _ h => h) (Or.inl ⟨by rfl, ?_⟩) hHeld ?_
        rotate_left
        · intro w hSw
          go_simp <;> with_reducible rfl
        try simp only [Act.put, List.setIfInBounds_toArray, List.set_cons_zero, List.set_cons_succ]
        refine takeAt 13 (some 65) ?_ rfl rfl (by kernel_rfl) (by kernel_rfl) (by kernel_rfl) (fun _ _ _ h => h) (Or.inl ⟨by rfl, ?_⟩) hHeld ?_
        rotate_left
        · intro w hSw
          go_simp <;> with_reducible rfl
        try simp only [Act.put, List.setIfInBounds_toArray, List.set_cons_zero, List.set_cons_succ]
        refine takeAt 14 (some 66) ?_ rfl rfl (by kernel_rfl) (by kernel_rfl) (by kernel_rfl) (fun _ _ _ h => h) (Or.inl ⟨by rfl, ?_⟩) hHeld ?_
        rotate_left
        · intro w hSw
          go_simp <;> with_reducible rfl
        try simp only [Act.put, List.setIfInBounds_toArray, List.set_cons_zero, List.set_cons_succ]
        refine takeAt 15 (some 67) ?_ rfl rfl (by kernel_rfl) (by kernel_rfl) (by kernel_rfl) (fun _ _ _ h => h) (Or.inl ⟨by rfl, ?_⟩) hHeld ?_
        rotate_left
        · intro w hSw
          go_simp <;> with_reducible rfl
        try simp only [Act.put, List.setIfInBounds_toArray, List.set_cons_zero, List.set_cons_succ]
        refine takeAt 16 (some 68) (.int .i64 G) rfl rfl (by kernel_rfl) (by kernel_rfl) (by kernel_rfl) (fun _ _ _ h => h) (Or.inl ⟨by rfl, ?_⟩) hHeld ?_
        · intro w hSw
          have g2 := hSw.2
          go_simp <;> with_reducible rfl
        try simp only [Act.put, List.setIfInBounds_toArray, List.set_cons_zero, List.set_cons_succ]
        refine takeAt 17 (some 69) ?_ rfl rfl (by kernel_rfl) (by kernel_rfl) (by kernel_rfl) (fun _ _ _ h => h) (Or.inl ⟨by rfl, ?_⟩) hHeld ?_
        rotate_left
        · intro w hSw
          go_simp <;> with_reducible rfl
        try simp only [Act.put, List.setIfInBounds_toArray, List.set_cons_zero, List.set_cons_succ]
        refine takeAt 18 (some 70) ?_ rfl rfl (by kernel_rfl) (by kernel_rfl) (by kernel_rfl) (fun _ _ _ h => h) (Or.inl ⟨by rfl, ?_⟩) hHeld ?_
        rotate_left
        · intro w hSw
          go_simp <;> with_reducible rfl
        try simp only [Act.put, List.setIfInBounds_toArray, List.set_cons_zero, List.set_cons_succ]
        refine takeAt 19 (some 71) ?_ rfl rfl (by kernel_rfl) (by kernel_rfl) (by kernel_rfl) (fun _ _ _ h => h) (Or.inl ⟨by rfl, ?_⟩) hHeld ?_
        rotate_left
        · intro w hSw
          go_simp <;> with_reducible rfl
        try simp only [Act.put, List.setIfInBounds_toArray, List.set_cons_zero, List.set_cons_succ]
        refine takeAt 20 (some 72) ?_ rfl rfl (by kernel_rfl) (by kernel_rfl) (by kernel_rfl) (fun _ _ _ h => h) (Or.inl ⟨by rfl, ?_⟩) hHeld ?_
        rotate_left
        · intro w hSw
          go_simp <;> with_reducible rfl
        try simp only [Act.put, List.setIfInBounds_toArray, List.set_cons_zero, List.set_cons_succ]
        refine wpAnyH_done (by kernel_rfl) ?_ _
        refine NoPanic.normal ?_
        have HW3 : Hid (Wk w0 wb sb (.slice (some ⟨b, o, none⟩) L.length vc) L root G cs (sn.set n true) w3 ∧ Fr (On sb) w w3 ∧ Lc 195 m (Nq.cells ⟨9, c, st, mn, mx, lz, nn, ks⟩ (.slice ka M kc)) w3) := by
          have k3 := kp_trans (kp_drew W2) H3.out
          exact ⟨H2.out.1.kpp k3, H2.out.2.1.trans (Fr.of_below k3), H2.out.2.2.kp k3⟩
        have b0 : w3.cell? ⟨m, 0, none⟩ = some (.int .u8 9) := HW3.out.2.2.at rfl
        have b6 : w3.cell? ⟨m, 6, none⟩ = some (.int .i64 mn) := HW3.out.2.2.at rfl
        have b7 : w3.cell? ⟨m, 7, none⟩ = some (.int .i64 mx) := HW3.out.2.2.at rfl
        have HC : Hid ((sn.set n true).count false < f) := by have := cnt_set HSN.out; have := HH.out.2; show _ < _; omega
        go_wp2_with fail
        clear b0 b6 b7
        go_loopw [7] (fun v7 wr => ∃ i : Nat, i ≤ M ∧ v7 = .int .i64 i ∧ Hid (∃ snr, Wk w0 wb sb (.slice (some ⟨b, o, none⟩) L.length vc) L root G cs snr wr ∧ Fr (On sb) w wr ∧ Lc 195 m (Nq.cells ⟨9, c, st, mn, mx, lz, nn, ks⟩ (.slice ka M kc)) wr ∧ snr.count false < f ∧ wlkL L G f ks (sn.set n true) = wlkL L G f (ks.drop i) snr)) (fun v7 _ => M - (intOf v7).toNat)
        case atStart => exact ⟨0, Nat.zero_le _, rfl, sn.set n true, HW3.out.1, HW3.out.2.1, HW3.out.2.2, HC.out, rfl⟩
        case round =>
          obtain ⟨i, hi, rfl, snr, hq⟩ := hrel
          have HQ : Hid (Wk w0 wb sb (.slice (some ⟨b, o, none⟩) L.length vc) L root G cs snr wr ∧ Fr (On sb) w wr ∧ Lc 195 m (Nq.cells ⟨9, c, st, mn, mx, lz, nn, ks⟩ (.slice ka M kc)) wr ∧ snr.count false < f ∧ wlkL L G f ks (sn.set n true) = wlkL L G f (ks.drop i) snr) := hq
          clear hq
          have b0 : wr.cell? ⟨m, 0, none⟩ = some (.int .u8 9) := HQ.out.2.2.1.at rfl
          have b10 : wr.cell? ⟨m, 10, none⟩ = some (.slice ka M kc) := HQ.out.2.2.1.at rfl
          by_cases hlt : i < M
          · have dl : decide ((i : Int) < (M : Int)) = true := decide_eq_true (by omega)
            have dn : decide (i < M) = true := decide_eq_true hlt
            obtain ⟨x, hx⟩ : ∃ x, ks[i]? = some x := ⟨_, List.getElem?_eq_getElem (by have := HM.out; omega)⟩
            obtain ⟨kb, ko, rfl, ck⟩ := (HKS.out.kp HQ.out.1.kp).cell hx
            have hdr : ks.drop i = x :: ks.drop (i + 1) := by
              obtain ⟨hl, he⟩ := List.getElem?_eq_some_iff.1 hx
              rw [← he]; exact List.drop_eq_getElem_cons hl
            obtain ⟨⟨b1, sn2⟩, hw⟩ : ∃ X, wlk L G f x snr = X := ⟨_, rfl⟩
            have HCL : Hid (Calls Tryz.prog 115 #[.pointer (some ⟨wb, 0, none⟩), .int .i64 x] wr fun e w' => e = .returned (.bool b1) ∧ Wk w0 wb sb (.slice (some ⟨b, o, none⟩) L.length vc) L root G cs sn2 w' ∧ Fr (On sb) wr w') := by
              have := HIH.out (k := x) HQ.out.1 HQ.out.2.2.2.1
              rw [hw] at this
              exact this
            have HE : Hid ((wlkL L G f ks (sn.set n true) = if b1 = false then (false, sn2) else wlkL L G f (ks.drop (i + 1)) sn2) ∧ sn2.count false < f) := by
              refine ⟨?_, ?_⟩
              · rw [HQ.out.2.2.2.2, hdr, wlkL, hw]
              · have := ((wlk_keeps (L := L) (G := G) f).1 x snr).2
                rw [hw] at this
                have := HQ.out.2.2.2.1
                simp only at *
                omega
            clear hw hdr hx
            cases b1 with
            | false =>
              have HRX : Hid (R = (false, sn2)) := by
                show _ = _
                rw [HON.out, HE.out.1]; rfl
              go_wp2_with fail
              refine Calls.mono HCL.out ?_
              rintro e w5 ⟨rfl, q1, q2⟩
              have H5 : Hid (Wk w0 wb sb (.slice (some ⟨b, o, none⟩) L.length vc) L root G cs sn2 w5 ∧ Fr (On sb) wr w5) := ⟨q1, q2⟩
              clear q1 q2 b0 b10 ck
              go_wp2_with fail
              go_ret
              rw [HRX.out]
              exact ⟨rfl, H5.out.1, HQ.out.2.1.trans H5.out.2⟩
            | true =>
              go_wp2_with fail
              refine Calls.mono HCL.out ?_
              rintro e w5 ⟨rfl, q1, q2⟩
              have H5 : Hid (Wk w0 wb sb (.slice (some ⟨b, o, none⟩) L.length vc) L root G cs sn2 w5 ∧ Fr (On sb) wr w5) := ⟨q1, q2⟩
              clear q1 q2 b0 b10 ck
              go_wp2_with fail
              go_roundw
              case rel => exact ⟨i + 1, by omega, by go_num, sn2, H5.out.1, HQ.out.2.1.trans H5.out.2, HQ.out.2.2.1.fr H5.out.2 HMS.out, HE.out.2, HE.out.1⟩
              case measure => simp only [intOf]; omega
          · obtain rfl : i = M := by omega
            have dl : decide ((i : Int) < (i : Int)) = false := by simp
            have HRX : Hid (R = (true, snr)) := by
              have e := HQ.out.2.2.2.2
              rw [List.drop_eq_nil_of_le (Nat.le_of_eq HM.out), wlkL] at e
              show _ = _
              rw [HON.out, e, if_neg (by simp), if_neg (by omega)]
            go_wp2_with fail
            go_ret
            rw [HRX.out]
            exact ⟨rfl, HQ.out.1, HQ.out.2.1⟩
    have i7 : ((op : Int) == 7) = false := by simp; omega
    have i7n : ((op : Int) != 7) = true := by simp; omega
    have i8 : ((op : Int) == 8) = false := by simp; omega
    have i9 : ((op : Int) == 9) = false := by simp; omega
    go_upto_region 6 with fail
    clear b0
    obtain ⟨KB, hKB⟩ : ∃ KB, kidsR ⟨op, c, st, mn, mx, lz, nn, ks⟩ = KB := ⟨_, rfl⟩
    have HK : Hid (Calls Tryz.prog 146 #[.agg #[.int .u8 op, .int .u8 c, .int .u64 st.a, .int .u64 st.b, .int .u64 st.c, .int .u64 st.d, .int .i64 mn, .int .i64 mx, .bool lz, .int .i64 nn, .slice ka M kc]] W2.drew fun e w' => e = .returned (.bool KB) ∧ Kp W2.drew w') := by
      have := fkids_any (w := W2.drew) (d := ⟨op, c, st, mn, mx, lz, nn, ks⟩) (kv := .slice ka M kc) (HKS.out.kp (kp_trans H2.out.1.kp (kp_drew _)))
      rw [hKB] at this
      exact this
    have HKB : Hid (kidsR ⟨op, c, st, mn, mx, lz, nn, ks⟩ = KB) := hKB
    clear hKB
    cases KB with
    | false =>
      have HRX : Hid (R = (false, sn.set n true)) := by
        show _ = _
        rw [HR.out]
        exact wlk_bad HB.out HSN.out (by rw [HD.out]; rw [HKB.out]; rfl)
      refine wp_region_noPanic ?_
      refine wp_region_held_drew (S := fun x => Lc 195 m (Nq.cells ⟨op, c, st, mn, mx, lz, nn, ks⟩ (.slice ka M kc)) x ∧ x.cell? ⟨wb, 2, none⟩ = some (.int .i64 G)) (by kernel_rfl) (HS2.out) (fun hHeld => ?_)
      refine takeAt 0 (some 52) (.agg #[.int .u8 op, .int .u8 c, .int .u64 st.a, .int .u64 st.b, .int .u64 st.c, .int .u64 st.d, .int .i64 mn, .int .i64 mx, .bool lz, .int .i64 nn, .slice ka M kc]) rfl rfl (by kernel_rfl) (by kernel_rfl) (by kernel_rfl) (fun _ _ _ h => h) (Or.inl ⟨by rfl, ?_⟩) hHeld ?_
      · intro w hSw
        have x0 : w.cell? ⟨m, 0, none⟩ = _ := hSw.1.at rfl
        have x1 : w.cell? ⟨m, 1, none⟩ = _ := hSw.1.at rfl
        have x2 : w.cell? ⟨m, 2, none⟩ = _ := hSw.1.at rfl
        have x3 : w.cell? ⟨m, 3, none⟩ = _ := hSw.1.at rfl
        have x4 : w.cell? ⟨m, 4, none⟩ = _ := hSw.1.at rfl
        have x5 : w.cell? ⟨m, 5, none⟩ = _ := hSw.1.at rfl
        have x6 : w.cell? ⟨m, 6, none⟩ = _ := hSw.1.at rfl
        have x7 : w.cell? ⟨m, 7, none⟩ = _ := hSw.1.at rfl
        have x8 : w.cell? ⟨m, 8, none⟩ = _ := hSw.1.at rfl
        have x9 : w.cell? ⟨m, 9, none⟩ = _ := hSw.1.at rfl
        have x10 : w.cell? ⟨m, 10, none⟩ = _ := hSw.1.at rfl
        go_simp <;> with_reducible rfl
      try simp only [Act.put, List.setIfInBounds_toArray, List.set_cons_zero, List.set_cons_succ]
      refine callAt 1 53 146 (vals := #[.agg #[.int .u8 op, .int .u8 c, .int .u64 st.a, .int .u64 st.b, .int .u64 st.c, .int .u64 st.d, .int .i64 mn, .int .i64 mx, .bool lz, .int .i64 nn, .slice ka M kc]]) (by kernel_rfl) rfl rfl rfl rfl (by simp [Act.eval]) Tryz.func146 (by kernel_rfl) (by kernel_rfl) ?_
      refine Calls.mono HK.out ?_
      rintro e w3 ⟨rfl, q1⟩
      have H3 : Hid (Kp W2.drew w3) := q1
      clear q1
      refine ⟨_, rfl, ⟨HS2.out.1.kp H3.out, kp_cell H3.out HS2.out.2⟩, fun hHeld => ?_⟩
      try simp only [Act.put, List.setIfInBounds_toArray, List.set_cons_zero, List.set_cons_succ]
      refine takeAt 2 (some 54) ?_ rfl rfl (by kernel_rfl) (by kernel_rfl) (by kernel_rfl) (fun _ _ _ h => h) (Or.inl ⟨by rfl, ?_⟩) hHeld ?_
      rotate_left
      · intro w hSw
        go_simp <;> with_reducible rfl
      try simp only [Act.put, List.setIfInBounds_toArray, List.set_cons_zero, List.set_cons_succ]
      refine takeAt 3 (some 55) ?_ rfl rfl (by kernel_rfl) (by kernel_rfl) (by kernel_rfl) (fun _ _ _ h => h) (Or.inl ⟨by rfl, ?_⟩) hHeld ?_
      rotate_left
      · intro w hSw
        go_simp <;> with_reducible rfl
      try simp only [Act.put, List.setIfInBounds_toArray, List.set_cons_zero, List.set_cons_succ]
      refine takeAt 4 (some 56) undef rfl rfl (by kernel_rfl) (by kernel_rfl) (by kernel_rfl) (fun _ _ _ h => h) (Or.inr ⟨by rfl, rfl⟩) hHeld ?_
      try simp only [Act.put, List.setIfInBounds_toArray, List.set_cons_zero, List.set_cons_succ]
      refine takeAt 5 (some 57) undef rfl rfl (by kernel_rfl) (by kernel_rfl) (by kernel_rfl) (fun _ _ _ h => h) (Or.inr ⟨by rfl, rfl⟩) hHeld ?_
      try simp only [Act.put, List.setIfInBounds_toArray, List.set_cons_zero, List.set_cons_succ]
      refine takeAt 6 (some 58) undef rfl rfl (by kernel_rfl) (by kernel_rfl) (by kernel_rfl) (fun _ _ _ h => h) (Or.inr ⟨by rfl, rfl⟩) hHeld ?_
      try simp only [Act.put, List.setIfInBounds_toArray, List.set_cons_zero, List.set_cons_succ]
      refine takeAt 7 (some 59) undef rfl rfl (by kernel_rfl) (by kernel_rfl) (by kernel_rfl) (fun _ _ _ h => h) (Or.inr ⟨by rfl, rfl⟩) hHeld ?_
      try simp only [Act.put, List.setIfInBounds_toArray, List.set_cons_zero, List.set_cons_succ]
      refine takeAt 8 (some 60) undef rfl rfl (by kernel_rfl) (by kernel_rfl) (by kernel_rfl) (fun _ _ _ h => h) (Or.inr ⟨by rfl, rfl⟩) hHeld ?_
      try simp only [Act.put, List.setIfInBounds_toArray, List.set_cons_zero, List.set_cons_succ]
      refine takeAt 9 (some 61) undef rfl rfl (by kernel_rfl) (by kernel_rfl) (by kernel_rfl) (fun _ _ _ h => h) (Or.inr ⟨by rfl, rfl⟩) hHeld ?_
      try simp only [Act.put, List.setIfInBounds_toArray, List.set_cons_zero, List.set_cons_succ]
      refine takeAt 10 (some 62) undef rfl rfl (by kernel_rfl) (by kernel_rfl) (by kernel_rfl) (fun _ _ _ h => h) (Or.inr ⟨by rfl, rfl⟩) hHeld ?_
      try simp only [Act.put, List.setIfInBounds_toArray, List.set_cons_zero, List.set_cons_succ]
      refine takeAt 11 (some 63) undef rfl rfl (by kernel_rfl) (by kernel_rfl) (by kernel_rfl) (fun _ _ _ h => h) (Or.inr ⟨by rfl, rfl⟩) hHeld ?_
      try simp only [Act.put, List.setIfInBounds_toArray, List.set_cons_zero, List.set_cons_succ]
      refine takeAt 12 (some 64) undef rfl rfl (by kernel_rfl) (by kernel_rfl) (by kernel_rfl) (fun _ _ _ h => h) (Or.inr ⟨by rfl, rfl⟩) hHeld ?_
      try simp only [Act.put, List.setIfInBounds_toArray, List.set_cons_zero, List.set_cons_succ]
      refine takeAt 13 (some 65) undef rfl rfl (by kernel_rfl) (by kernel_rfl) (by kernel_rfl) (fun _ _ _ h => h) (Or.inr ⟨by rfl, rfl⟩) hHeld ?_
      try simp only [Act.put, List.setIfInBounds_toArray, List.set_cons_zero, List.set_cons_succ]
      refine takeAt 14 (some 66) undef rfl rfl (by kernel_rfl) (by kernel_rfl) (by kernel_rfl) (fun _ _ _ h => h) (Or.inr ⟨by rfl, rfl⟩) hHeld ?_
      try simp only [Act.put, List.setIfInBounds_toArray, List.set_cons_zero, List.set_cons_succ]
      refine takeAt 15 (some 67) undef rfl rfl (by kernel_rfl) (by kernel_rfl) (by kernel_rfl) (fun _ _ _ h => h) (Or.inr ⟨by rfl, rfl⟩) hHeld ?_
      try simp only [Act.put, List.setIfInBounds_toArray, List.set_cons_zero, List.set_cons_succ]
      refine takeAt 16 (some 68) undef rfl rfl (by kernel_rfl) (by kernel_rfl) (by kernel_rfl) (fun _ _ _ h => h) (Or.inr ⟨by rfl, rfl⟩) hHeld ?_
      try simp only [Act.put, List.setIfInBounds_toArray, List.set_cons_zero, List.set_cons_succ]
      refine takeAt 17 (some 69) undef rfl rfl (by kernel_rfl) (by kernel_rfl) (by kernel_rfl) (fun _ _ _ h => h) (Or.inr ⟨by rfl, rfl⟩) hHeld ?_
      try simp only [Act.put, List.setIfInBounds_toArray, List.set_cons_zero, List.set_cons_succ]
      refine takeAt 18 (some 70) undef rfl rfl (by kernel_rfl) (by kernel_rfl) (by kernel_rfl) (fun _ _ _ h => h) (Or.inr ⟨by rfl, rfl⟩) hHeld ?_
      try simp only [Act.put, List.setIfInBounds_toArray, List.set_cons_zero, List.set_cons_succ]
      refine takeAt 19 (some 71) undef rfl rfl (by kernel_rfl) (by kernel_rfl) (by kernel_rfl) (fun _ _ _ h => h) (Or.inr ⟨by rfl, rfl⟩) hHeld ?_
      try simp only [Act.put, List.setIfInBounds_toArray, List.set_cons_zero, List.set_cons_succ]
      refine takeAt 20 (some 72) ?_ rfl rfl (by kernel_rfl) (by kernel_rfl) (by kernel_rfl) (fun _ _ _ h => h) (Or.inl ⟨by rfl, ?_⟩) hHeld ?_
      rotate_left
      · intro w hSw
        go_simp <;> with_reducible rfl
      try simp only [Act.put, List.setIfInBounds_toArray, List.set_cons_zero, List.set_cons_succ]
      refine wpAnyH_done (by kernel_rfl) ?_ _
      refine NoPanic.normal ?_
      have HW3 : Hid (Wk w0 wb sb (.slice (some ⟨b, o, none⟩) L.length vc) L root G cs (sn.set n true) w3 ∧ Fr (On sb) w w3 ) := by
        have k3 := kp_trans (kp_drew W2) H3.out
        exact ⟨H2.out.1.kpp k3, H2.out.2.1.trans (Fr.of_below k3)⟩
      go_wp2_with fail
      go_ret
      rw [HRX.out]
      exact ⟨rfl, HW3.out.1, HW3.out.2⟩
    | true =>
      refine wp_region_noPanic ?_
      refine wp_region_held_drew (S := fun x => Lc 195 m (Nq.cells ⟨op, c, st, mn, mx, lz, nn, ks⟩ (.slice ka M kc)) x ∧ x.cell? ⟨wb, 2, none⟩ = some (.int .i64 G)) (by kernel_rfl) (HS2.out) (fun hHeld => ?_)
      refine takeAt 0 (some 52) (.agg #[.int .u8 op, .int .u8 c, .int .u64 st.a, .int .u64 st.b, .int .u64 st.c, .int .u64 st.d, .int .i64 mn, .int .i64 mx, .bool lz, .int .i64 nn, .slice ka M kc]) rfl rfl (by kernel_rfl) (by kernel_rfl) (by kernel_rfl) (fun _ _ _ h => h) (Or.inl ⟨by rfl, ?_⟩) hHeld ?_
      · intro w hSw
        have x0 : w.cell? ⟨m, 0, none⟩ = _ := hSw.1.at rfl
        have x1 : w.cell? ⟨m, 1, none⟩ = _ := hSw.1.at rfl
        have x2 : w.cell? ⟨m, 2, none⟩ = _ := hSw.1.at rfl
        have x3 : w.cell? ⟨m, 3, none⟩ = _ := hSw.1.at rfl
        have x4 : w.cell? ⟨m, 4, none⟩ = _ := hSw.1.at rfl
        have x5 : w.cell? ⟨m, 5, none⟩ = _ := hSw.1.at rfl
        have x6 : w.cell? ⟨m, 6, none⟩ = _ := hSw.1.at rfl
        have x7 : w.cell? ⟨m, 7, none⟩ = _ := hSw.1.at rfl
        have x8 : w.cell? ⟨m, 8, none⟩ = _ := hSw.1.at rfl
        have x9 : w.cell? ⟨m, 9, none⟩ = _ := hSw.1.at rfl
        have x10 : w.cell? ⟨m, 10, none⟩ = _ := hSw.1.at rfl
        go_simp <;> with_reducible rfl
      try simp only [Act.put, List.setIfInBounds_toArray, List.set_cons_zero, List.set_cons_succ]
      refine callAt 1 53 146 (vals := #[.agg #[.int .u8 op, .int .u8 c, .int .u64 st.a, .int .u64 st.b, .int .u64 st.c, .int .u64 st.d, .int .i64 mn, .int .i64 mx, .bool lz, .int .i64 nn, .slice ka M kc]]) (by kernel_rfl) rfl rfl rfl rfl (by simp [Act.eval]) Tryz.func146 (by kernel_rfl) (by kernel_rfl) ?_
      refine Calls.mono HK.out ?_
      rintro e w3 ⟨rfl, q1⟩
      have H3 : Hid (Kp W2.drew w3) := q1
      clear q1
      refine ⟨_, rfl, ⟨HS2.out.1.kp H3.out, kp_cell H3.out HS2.out.2⟩, fun hHeld => ?_⟩
      try simp only [Act.put, List.setIfInBounds_toArray, List.set_cons_zero, List.set_cons_succ]
      refine takeAt 2 (some 54) ?_ rfl rfl (by kernel_rfl) (by kernel_rfl) (by kernel_rfl) (fun _ _ _ h => h) (Or.inl ⟨by rfl, ?_⟩) hHeld ?_
      rotate_left
      · intro w hSw
        go_simp <;> with_reducible rfl
      try simp only [Act.put, List.setIfInBounds_toArray, List.set_cons_zero, List.set_cons_succ]
      refine takeAt 3 (some 55) ?_ rfl rfl (by kernel_rfl) (by kernel_rfl) (by kernel_rfl) (fun _ _ _ h => h) (Or.inl ⟨by rfl, ?_⟩) hHeld ?_
      rotate_left
      · intro w hSw
        go_simp <;> with_reducible rfl
      try simp only [Act.put, List.setIfInBounds_toArray, List.set_cons_zero, List.set_cons_succ]
      refine takeAt 4 (some 56) ?_ rfl rfl (by kernel_rfl) (by kernel_rfl) (by kernel_rfl) (fun _ _ _ h => h) (Or.inl ⟨by rfl, ?_⟩) hHeld ?_
      rotate_left
      · intro w hSw
        go_simp <;> with_reducible rfl
      try simp only [Act.put, List.setIfInBounds_toArray, List.set_cons_zero, List.set_cons_succ]
      refine takeAt 5 (some 57) ?_ rfl rfl (by kernel_rfl) (by kernel_rfl) (by kernel_rfl) (fun _ _ _ h => h) (Or.inl ⟨by rfl, ?_⟩) hHeld ?_
      rotate_left
      · intro w hSw
        go_simp <;> with_reducible rfl
      try simp only [Act.put, List.setIfInBounds_toArray, List.set_cons_zero, List.set_cons_succ]
      refine takeAt 6 (some 58) undef rfl rfl (by kernel_rfl) (by kernel_rfl) (by kernel_rfl) (fun _ _ _ h => h) (Or.inr ⟨by rfl, rfl⟩) hHeld ?_
      try simp only [Act.put, List.setIfInBounds_toArray, List.set_cons_zero, List.set_cons_succ]
      refine takeAt 7 (some 59) undef rfl rfl (by kernel_rfl) (by kernel_rfl) (by kernel_rfl) (fun _ _ _ h => h) (Or.inr ⟨by rfl, rfl⟩) hHeld ?_
      try simp only [Act.put, List.setIfInBounds_toArray, List.set_cons_zero, List.set_cons_succ]
      refine takeAt 8 (some 60) undef rfl rfl (by kernel_rfl) (by kernel_rfl) (by kernel_rfl) (fun _ _ _ h => h) (Or.inr ⟨by rfl, rfl⟩) hHeld ?_
      try simp only [Act.put, List.setIfInBounds_toArray, List.set_cons_zero, List.set_cons_succ]
      refine takeAt 9 (some 61) undef rfl rfl (by kernel_rfl) (by kernel_rfl) (by kernel_rfl) (fun _ _ _ h => h) (Or.inr ⟨by rfl, rfl⟩) hHeld ?_
      try simp only [Act.put, List.setIfInBounds_toArray, List.set_cons_zero, List.set_cons_succ]
      refine takeAt 10 (some 62) undef rfl rfl (by kernel_rfl) (by kernel_rfl) (by kernel_rfl) (fun _ _ _ h => h) (Or.inr ⟨by rfl, rfl⟩) hHeld ?_
      try simp only [Act.put, List.setIfInBounds_toArray, List.set_cons_zero, List.set_cons_succ]
      refine takeAt 11 (some 63) undef rfl rfl (by kernel_rfl) (by kernel_rfl) (by kernel_rfl) (fun _ _ _ h => h) (Or.inr ⟨by rfl, rfl⟩) hHeld ?_
      try simp only [Act.put, List.setIfInBounds_toArray, List.set_cons_zero, List.set_cons_succ]
      refine takeAt 12 (some 64) undef rfl rfl (by kernel_rfl) (by kernel_rfl) (by kernel_rfl) (fun _ _ _ h => h) (Or.inr ⟨by rfl, rfl⟩) hHeld ?_
      try simp only [Act.put, List.setIfInBounds_toArray, List.set_cons_zero, List.set_cons_succ]
      refine takeAt 13 (some 65) undef rfl rfl (by kernel_rfl) (by kernel_rfl) (by kernel_rfl) (fun _ _ _ h => h) (Or.inr ⟨by rfl, rfl⟩) hHeld ?_
      try simp only [Act.put, List.setIfInBounds_toArray, List.set_cons_zero, List.set_cons_succ]
      refine takeAt 14 (some 66) undef rfl rfl (by kernel_rfl) (by kernel_rfl) (by kernel_rfl) (fun _ _ _ h => h) (Or.inr ⟨by rfl, rfl⟩) hHeld ?_
      try simp only [Act.put, List.setIfInBounds_toArray, List.set_cons_zero, List.set_cons_succ]
      refine takeAt 15 (some 67) undef rfl rfl (by kernel_rfl) (by kernel_rfl) (by kernel_rfl) (fun _ _ _ h => h) (Or.inr ⟨by rfl, rfl⟩) hHeld ?_
      try simp only [Act.put, List.setIfInBounds_toArray, List.set_cons_zero, List.set_cons_succ]
      refine takeAt 16 (some 68) undef rfl rfl (by kernel_rfl) (by kernel_rfl) (by kernel_rfl) (fun _ _ _ h => h) (Or.inr ⟨by rfl, rfl⟩) hHeld ?_
      try simp only [Act.put, List.setIfInBounds_toArray, List.set_cons_zero, List.set_cons_succ]
      refine takeAt 17 (some 69) undef rfl rfl (by kernel_rfl) (by kernel_rfl) (by kernel_rfl) (fun _ _ _ h => h) (Or.inr ⟨by rfl, rfl⟩) hHeld ?_
      try simp only [Act.put, List.setIfInBounds_toArray, List.set_cons_zero, List.set_cons_succ]
      refine takeAt 18 (some 70) undef rfl rfl (by kernel_rfl) (by kernel_rfl) (by kernel_rfl) (fun _ _ _ h => h) (Or.inr ⟨by rfl, rfl⟩) hHeld ?_
      try simp only [Act.put, List.setIfInBounds_toArray, List.set_cons_zero, List.set_cons_succ]
      refine takeAt 19 (some 71) ?_ rfl rfl (by kernel_rfl) (by kernel_rfl) (by kernel_rfl) (fun _ _ _ h => h) (Or.inl ⟨by rfl, ?_⟩) hHeld ?_
      rotate_left
      · intro w hSw
        go_simp <;> with_reducible rfl
      try simp only [Act.put, List.setIfInBounds_toArray, List.set_cons_zero, List.set_cons_succ]
      refine takeAt 20 (some 72) ?_ rfl rfl (by kernel_rfl) (by kernel_rfl) (by kernel_rfl) (fun _ _ _ h => h) (Or.inl ⟨by rfl, ?_⟩) hHeld ?_
      rotate_left
      · intro w hSw
        go_simp <;> with_reducible rfl
      try simp only [Act.put, List.setIfInBounds_toArray, List.set_cons_zero, List.set_cons_succ]
      refine wpAnyH_done (by kernel_rfl) ?_ _
      refine NoPanic.normal ?_
      have HW3 : Hid (Wk w0 wb sb (.slice (some ⟨b, o, none⟩) L.length vc) L root G cs (sn.set n true) w3 ∧ Fr (On sb) w w3 ∧ Lc 195 m (Nq.cells ⟨op, c, st, mn, mx, lz, nn, ks⟩ (.slice ka M kc)) w3) := by
        have k3 := kp_trans (kp_drew W2) H3.out
        exact ⟨H2.out.1.kpp k3, H2.out.2.1.trans (Fr.of_below k3), H2.out.2.2.kp k3⟩
      have b0 : w3.cell? ⟨m, 0, none⟩ = some (.int .u8 op) := HW3.out.2.2.at rfl
      have b6 : w3.cell? ⟨m, 6, none⟩ = some (.int .i64 mn) := HW3.out.2.2.at rfl
      have b7 : w3.cell? ⟨m, 7, none⟩ = some (.int .i64 mx) := HW3.out.2.2.at rfl
      have HON : Hid (R = if (wlkL L G f ks (sn.set n true)).1 = false then (false, (wlkL L G f ks (sn.set n true)).2) else (if op = 7 then sngR L (nodeAt L (ks.headD 0)) else true, (wlkL L G f ks (sn.set n true)).2)) := by
        show _ = _
        have := wlk_on (G := G) (f := f) HB.out HSN.out (by rw [HD.out]; rw [HKB.out]; unfold numbR timR; rw [if_neg (by simp only; omega), if_neg (by simp only; omega)]; rfl)
        rw [HD.out] at this
        rw [HR.out]
        exact this
      have HC : Hid ((sn.set n true).count false < f) := by have := cnt_set HSN.out; have := HH.out.2; show _ < _; omega
      go_wp2_with fail
      clear b0 b6 b7
      go_loopw [7] (fun v7 wr => ∃ i : Nat, i ≤ M ∧ v7 = .int .i64 i ∧ Hid (∃ snr, Wk w0 wb sb (.slice (some ⟨b, o, none⟩) L.length vc) L root G cs snr wr ∧ Fr (On sb) w wr ∧ Lc 195 m (Nq.cells ⟨op, c, st, mn, mx, lz, nn, ks⟩ (.slice ka M kc)) wr ∧ snr.count false < f ∧ wlkL L G f ks (sn.set n true) = wlkL L G f (ks.drop i) snr)) (fun v7 _ => M - (intOf v7).toNat)
      case atStart => exact ⟨0, Nat.zero_le _, rfl, sn.set n true, HW3.out.1, HW3.out.2.1, HW3.out.2.2, HC.out, rfl⟩
      case round =>
        obtain ⟨i, hi, rfl, snr, hq⟩ := hrel
        have HQ : Hid (Wk w0 wb sb (.slice (some ⟨b, o, none⟩) L.length vc) L root G cs snr wr ∧ Fr (On sb) w wr ∧ Lc 195 m (Nq.cells ⟨op, c, st, mn, mx, lz, nn, ks⟩ (.slice ka M kc)) wr ∧ snr.count false < f ∧ wlkL L G f ks (sn.set n true) = wlkL L G f (ks.drop i) snr) := hq
        clear hq
        have b0 : wr.cell? ⟨m, 0, none⟩ = some (.int .u8 op) := HQ.out.2.2.1.at rfl
        have b10 : wr.cell? ⟨m, 10, none⟩ = some (.slice ka M kc) := HQ.out.2.2.1.at rfl
        by_cases hlt : i < M
        · have dl : decide ((i : Int) < (M : Int)) = true := decide_eq_true (by omega)
          have dn : decide (i < M) = true := decide_eq_true hlt
          obtain ⟨x, hx⟩ : ∃ x, ks[i]? = some x := ⟨_, List.getElem?_eq_getElem (by have := HM.out; omega)⟩
          obtain ⟨kb, ko, rfl, ck⟩ := (HKS.out.kp HQ.out.1.kp).cell hx
          have hdr : ks.drop i = x :: ks.drop (i + 1) := by
            obtain ⟨hl, he⟩ := List.getElem?_eq_some_iff.1 hx
            rw [← he]; exact List.drop_eq_getElem_cons hl
          obtain ⟨⟨b1, sn2⟩, hw⟩ : ∃ X, wlk L G f x snr = X := ⟨_, rfl⟩
          have HCL : Hid (Calls Tryz.prog 115 #[.pointer (some ⟨wb, 0, none⟩), .int .i64 x] wr fun e w' => e = .returned (.bool b1) ∧ Wk w0 wb sb (.slice (some ⟨b, o, none⟩) L.length vc) L root G cs sn2 w' ∧ Fr (On sb) wr w') := by
            have := HIH.out (k := x) HQ.out.1 HQ.out.2.2.2.1
            rw [hw] at this
            exact this
          have HE : Hid ((wlkL L G f ks (sn.set n true) = if b1 = false then (false, sn2) else wlkL L G f (ks.drop (i + 1)) sn2) ∧ sn2.count false < f) := by
            refine ⟨?_, ?_⟩
            · rw [HQ.out.2.2.2.2, hdr, wlkL, hw]
            · have := ((wlk_keeps (L := L) (G := G) f).1 x snr).2
              rw [hw] at this
              have := HQ.out.2.2.2.1
              simp only at *
              omega
          clear hw hdr hx
          cases b1 with
          | false =>
            have HRX : Hid (R = (false, sn2)) := by
              show _ = _
              rw [HON.out, HE.out.1]; rfl
            go_wp2_with fail
            refine Calls.mono HCL.out ?_
            rintro e w5 ⟨rfl, q1, q2⟩
            have H5 : Hid (Wk w0 wb sb (.slice (some ⟨b, o, none⟩) L.length vc) L root G cs sn2 w5 ∧ Fr (On sb) wr w5) := ⟨q1, q2⟩
            clear q1 q2 b0 b10 ck
            go_wp2_with fail
            go_ret
            rw [HRX.out]
            exact ⟨rfl, H5.out.1, HQ.out.2.1.trans H5.out.2⟩
          | true =>
            go_wp2_with fail
            refine Calls.mono HCL.out ?_
            rintro e w5 ⟨rfl, q1, q2⟩
            have H5 : Hid (Wk w0 wb sb (.slice (some ⟨b, o, none⟩) L.length vc) L root G cs sn2 w5 ∧ Fr (On sb) wr w5) := ⟨q1, q2⟩
            clear q1 q2 b0 b10 ck
            go_wp2_with fail
            go_roundw
            case rel => exact ⟨i + 1, by omega, by go_num, sn2, H5.out.1, HQ.out.2.1.trans H5.out.2, HQ.out.2.2.1.fr H5.out.2 HMS.out, HE.out.2, HE.out.1⟩
            case measure => simp only [intOf]; omega
        · obtain rfl : i = M := by omega
          have dl : decide ((i : Int) < (i : Int)) = false := by simp
          have HRX : Hid (R = (true, snr)) := by
            have e := HQ.out.2.2.2.2
            rw [List.drop_eq_nil_of_le (Nat.le_of_eq HM.out), wlkL] at e
            show _ = _
            rw [HON.out, e, if_neg (by simp), if_neg (by omega)]
          go_wp2_with fail
          go_ret
          rw [HRX.out]
          exact ⟨rfl, HQ.out.1, HQ.out.2.1⟩
end
end Go.Proofs.YtalmajiflmejcaaGreat
