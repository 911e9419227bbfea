/- Texts that the proof of the law stands on: ZE. -/
import Derived.Test.YthkodldldipimaaPartC
/- ExpandLines: Same, and the walk. -/
namespace Go.Proofs.Ythkodldldipimaa
open Go.ChangeShapes Go.WideShapes Go.ChangeAt Go.RowKit
set_option linter.unusedVariables false
set_option linter.unusedSimpArgs false
/-- Same of lines that are the same. -/
theorem zsame_any {a1 a2 : Option Addr} {n1 n2 c1 c2 : Nat} {l : List (List UInt8)} {w : World} (h1 : Sl a1 n1 c1 l w) (h2 : Sl a2 n2 c2 l w) :
    Calls Try.prog 11 #[.slice a1 n1 c1, .slice a2 n2 c2] w fun e w' => e = .returned (.bool true) ∧ Kp w w' := by
  obtain rfl : n1 = n2 := by rw [← h1.len, ← h2.len]
  have HA : Hid _ := h1
  have HB : Hid _ := h2
  have x1 := h1.le
  have x2 := h1.cap
  have y1 := h2.le
  have y2 := h2.cap
  unfold maxLen at x2 y2
  have hd0 : ((n1 : Int) != (n1 : Int)) = false := by simp
  clear h1 h2
  go_enter Try.func11, Try.ntmps11
  go_wp2_with fail
  go_loopw [5] (fun vi wr => ∃ i : Nat, i ≤ n1 ∧ vi = .int .i64 i ∧ ∃ q, wr = w.drewN q) (fun vi _ => n1 - (intOf vi).toNat)
  case atStart => exact ⟨0, Nat.zero_le _, rfl, 0, rfl⟩
  case round =>
    obtain ⟨i, hi, rfl, q, rfl⟩ := hrel
    by_cases hlt : i < n1
    · have hdl : decide ((i : Int) < (n1 : Int)) = true := decide_eq_true (by omega)
      obtain ⟨s, hs⟩ : ∃ s, l[i]? = some s := ⟨_, List.getElem?_eq_getElem (by rw [HA.out.len]; exact hlt)⟩
      obtain ⟨g1, rfl, _, e1⟩ := HA.out.at_ i s hs
      obtain ⟨g2, rfl, _, e2⟩ := HB.out.at_ i s hs
      have hli : (i : Int) < (n1 : Int) := by omega
      clear hs
      go_wp2_with fail
      go_quiet (fail)
      go_wp2_with fail
      go_roundw
      case rel => exact ⟨i + 1, by omega, by go_num, _, rfl⟩
      case measure => simp only [intOf]; omega
    · obtain rfl : i = n1 := by omega
      have hdl : decide ((i : Int) < (i : Int)) = false := by simp
      go_wp2_with fail
      go_ret
      exact ⟨rfl, kp_drewN _ _⟩
theorem zlines_sl {v : Value} {l : List Tm} {w : World} (h : Tms v l w) (L : ByteArray) (m : Mt) (hm : m.fit) (hd : Mod l L.data.toList) :
    Calls Try.prog 12 #[v, .string L, .agg m.cells.toArray] w fun e w' => ∃ a n cap, e = .returned (.slice a n cap) ∧ Sl a n cap (linesF l L.data.toList m) w' ∧ Kp w w' := by
  refine (zlines_any h L m hm hd).mono ?_
  rintro e w' ⟨⟨u, rfl, hr⟩, k⟩
  obtain ⟨a, cap, rfl, hs⟩ := sl_row hr
  exact ⟨a, _, cap, rfl, hs, k⟩
set_option maxHeartbeats 8000000 in
set_option maxRecDepth 100000 in
theorem lines_walk {v : Value} {l : List Tm} {w : World} (h : Tms v l w) (hk : ∀ t ∈ l, TmOk t) (hz : ∀ t ∈ l, t.tx.length ≤ reachBytes) (L : ByteArray) (hL : L.size ≤ reachBytes) (m : Mt) (hm : m.fit) :
    Calls Try.prog 5 #[v, .string L, .agg m.cells.toArray] w fun e w' => e = .returned (.bool true) ∧ Kp w w' := by
  obtain ⟨dT, hT1, hT2⟩ := row_mt
  have HT : Hid (Try.prog.underlying 25 = some dT ∧ dT.isRow = true ∧ (Try.prog.info? 25).map (·.size) = some m.cells.length) := ⟨hT1, hT2, by rw [Mt.len hm]; exact size_mt⟩
  obtain ⟨A, hA⟩ : ∃ A, hvF l L.size = A := ⟨_, rfl⟩
  have HH1 : Hid (∀ W, Kp w W → Calls Try.prog 10 #[v, .string L] W fun e w' => e = .returned (.bool A) ∧ w' = W) := fun W k => by rw [← hA]; exact heavy_any (h.kp k) L hL hz
  have HL1 : Hid (A = false → ∀ W, Kp w W → Calls Try.prog 9 #[v, .string L, .agg m.cells.toArray] W fun e w' => ∃ a n cap, e = .returned (.slice a n cap) ∧ Sl a n cap (linesF l L.data.toList m) w' ∧ Kp W w') := fun e W k =>
    lines_sl (h.kp k) L m hm (mod_of (by rw [e] at hA; simpa using hA) hk) rfl
  have HL2 : Hid (A = false → ∀ W, Kp w W → Calls Try.prog 12 #[v, .string L, .agg m.cells.toArray] W fun e w' => ∃ a n cap, e = .returned (.slice a n cap) ∧ Sl a n cap (linesF l L.data.toList m) w' ∧ Kp W w') := fun e W k =>
    zlines_sl (h.kp k) L m hm (mod_of (by rw [e] at hA; simpa using hA) hk)
  obtain ⟨va, vc, rfl, v1, v3, -⟩ := h
  obtain ⟨n1, hn1⟩ : ∃ n1, l.length = n1 := ⟨_, rfl⟩
  rw [hn1] at HL1 HL2 HH1 v1 ⊢
  unfold maxLen at v3
  have HB : Hid (Lc 25 w.heap.size m.cells (w.alloc (.cells m.cells.toArray 25)) ∧ Kp w (w.alloc (.cells m.cells.toArray 25))) := ⟨Lc.new _ _ _, kp_alloc _ _⟩
  obtain ⟨W0, hW0⟩ : ∃ W0, w.alloc (.cells m.cells.toArray 25) = W0 := ⟨_, rfl⟩
  obtain ⟨bm, hbm⟩ : ∃ bm, w.heap.size = bm := ⟨_, rfl⟩
  rw [hW0, hbm] at HB
  clear hA hk hz hL hn1 hT1 hT2 hm
  cases A with
  | true =>
    clear HL1 HL2
    go_enter Try.func5, Try.ntmps5
    go_upto_region 1 with fail
    clear hW0 hbm
    go_wp2_with fail
    refine Calls.mono (HH1.out _ HB.out.2) ?_
    rintro e w1 ⟨rfl, rfl⟩
    go_wp2_with fail
    refine Calls.mono (oknown_any _) ?_
    rintro e w2 ⟨rfl, k2⟩
    have HK : Hid (Kp w w2) := kp_trans HB.out.2 k2
    clear k2
    go_wp2_with fail
    go_ret
    exact ⟨rfl, HK.out⟩
  | false =>
  replace HL1 := HL1.out rfl
  replace HL2 := HL2.out rfl
  have HLA : Hid _ := HL1
  have HLB : Hid _ := HL2
  clear HL1 HL2
  go_enter Try.func5, Try.ntmps5
  go_upto_region 1 with fail
  clear hW0 hbm
  go_wp2_with fail
  refine Calls.mono (HH1.out _ HB.out.2) ?_
  rintro e w1 ⟨rfl, e1⟩
  rw [e1]
  clear e1
  go_wp2_with fail
  refine Calls.mono (oknown_any _) ?_
  rintro e w2 ⟨rfl, k2⟩
  have HK : Hid (Kp w w2 ∧ Lc 25 bm m.cells w2) := ⟨kp_trans HB.out.2 k2, HB.out.1.kp k2⟩
  clear k2 HB HH1
  go_upto_region 3 with fail
  have HS0 : Hid (Lc 25 bm m.cells w2.drew ∧ Kp w w2.drew) := ⟨HK.out.2.kp (kp_drew _), kp_trans HK.out.1 (kp_drew _)⟩
  refine wp_region_noPanic ?_
  refine wp_region_held_drew (S := fun z => Lc 25 bm m.cells z) (by kernel_rfl) (HS0.out.1) (fun hHeld => ?_)
  refine takeAt 0 (some 15) ?_ rfl rfl (by kernel_rfl) (by kernel_rfl) (by kernel_rfl) (fun _ _ _ h => h) (Or.inl ⟨by rfl, ?_⟩) hHeld ?_
  rotate_left
  · intro w hSw
    go_simp <;> with_reducible rfl
  try simp only [Act.put, List.setIfInBounds_toArray, List.set_cons_zero, List.set_cons_succ]
  refine takeAt 1 (some 16) ?_ rfl rfl (by kernel_rfl) (by kernel_rfl) (by kernel_rfl) (fun _ _ _ h => h) (Or.inl ⟨by rfl, ?_⟩) hHeld ?_
  rotate_left
  · intro w hSw
    go_simp <;> with_reducible rfl
  try simp only [Act.put, List.setIfInBounds_toArray, List.set_cons_zero, List.set_cons_succ]
  refine takeAt 2 (some 17) (.agg m.cells.toArray) rfl rfl (by kernel_rfl) (by kernel_rfl) (by kernel_rfl) (fun _ _ _ h => h) (yieldsIf_load_mid (by rfl) 25 (.tmp 5) rfl bm 0 rfl m.cells dT (fun z hz => hz.range 0 fun j v hj => by rw [Nat.zero_add]; exact hj) HT.out.1 HT.out.2.1 HT.out.2.2) hHeld ?_
  try simp only [Act.put, List.setIfInBounds_toArray, List.set_cons_zero, List.set_cons_succ]
  refine takeAt 4 (some 19) ?_ rfl rfl (by kernel_rfl) (by kernel_rfl) (by kernel_rfl) (fun _ _ _ h => h) (Or.inl ⟨by rfl, ?_⟩) hHeld ?_
  rotate_left
  · intro w hSw
    go_simp <;> with_reducible rfl
  try simp only [Act.put, List.setIfInBounds_toArray, List.set_cons_zero, List.set_cons_succ]
  refine takeAt 5 (some 20) ?_ rfl rfl (by kernel_rfl) (by kernel_rfl) (by kernel_rfl) (fun _ _ _ h => h) (Or.inl ⟨by rfl, ?_⟩) hHeld ?_
  rotate_left
  · intro w hSw
    go_simp <;> with_reducible rfl
  try simp only [Act.put, List.setIfInBounds_toArray, List.set_cons_zero, List.set_cons_succ]
  refine takeAt 6 (some 21) (.agg m.cells.toArray) rfl rfl (by kernel_rfl) (by kernel_rfl) (by kernel_rfl) (fun _ _ _ h => h) (yieldsIf_load_mid (by rfl) 25 (.tmp 5) rfl bm 0 rfl m.cells dT (fun z hz => hz.range 0 fun j v hj => by rw [Nat.zero_add]; exact hj) HT.out.1 HT.out.2.1 HT.out.2.2) hHeld ?_
  try simp only [Act.put, List.setIfInBounds_toArray, List.set_cons_zero, List.set_cons_succ]
  refine callAt 3 18 9 (vals := #[.slice va n1 vc, .string L, .agg m.cells.toArray]) (by kernel_rfl) rfl rfl rfl rfl (by simp [Act.eval]) Try.func9 (by kernel_rfl) (by kernel_rfl) ?_
  refine Calls.mono (HLA.out _ HS0.out.2) ?_
  rintro e x1 ⟨a1, m1, c1, rfl, q1, q2⟩
  have HX1 : Hid (Sl a1 m1 c1 (linesF l L.data.toList m) x1 ∧ Kp w x1 ∧ Lc 25 bm m.cells x1) := ⟨q1, kp_trans HS0.out.2 q2, HS0.out.1.kp q2⟩
  clear q1 q2
  refine ⟨_, rfl, HX1.out.2.2, fun hHeld => ?_⟩
  try simp only [Act.put, List.setIfInBounds_toArray, List.set_cons_zero, List.set_cons_succ]
  refine callAt 7 22 12 (vals := #[.slice va n1 vc, .string L, .agg m.cells.toArray]) (by kernel_rfl) rfl rfl rfl rfl (by simp [Act.eval]) Try.func12 (by kernel_rfl) (by kernel_rfl) ?_
  refine Calls.mono (HLB.out _ HX1.out.2.1) ?_
  rintro e x2 ⟨a2, m2, c2, rfl, q1, q2⟩
  have HX2 : Hid (Sl a1 m1 c1 (linesF l L.data.toList m) x2 ∧ Sl a2 m2 c2 (linesF l L.data.toList m) x2 ∧ Kp w x2 ∧ Lc 25 bm m.cells x2) := ⟨HX1.out.1.kp q2, q1, kp_trans HX1.out.2.1 q2, HX1.out.2.2.kp q2⟩
  clear q1 q2
  refine ⟨_, rfl, HX2.out.2.2.2, fun hHeld => ?_⟩
  try simp only [Act.put, List.setIfInBounds_toArray, List.set_cons_zero, List.set_cons_succ]
  refine callAt 8 23 11 (vals := #[.slice a1 m1 c1, .slice a2 m2 c2]) (by kernel_rfl) rfl rfl rfl rfl (by simp [Act.eval]) Try.func11 (by kernel_rfl) (by kernel_rfl) ?_
  refine Calls.mono (zsame_any HX2.out.1 HX2.out.2.1) ?_
  rintro e x3 ⟨rfl, q3⟩
  have HX3 : Hid (Kp w x3 ∧ Lc 25 bm m.cells x3) := ⟨kp_trans HX2.out.2.2.1 q3, HX2.out.2.2.2.kp q3⟩
  clear q3
  refine ⟨_, rfl, HX3.out.2, fun hHeld => ?_⟩
  try simp only [Act.put, List.setIfInBounds_toArray, List.set_cons_zero, List.set_cons_succ]
  refine takeAt 9 (some 6) ?_ rfl rfl (by kernel_rfl) (by kernel_rfl) (by kernel_rfl) (fun _ _ _ h => h) (Or.inl ⟨by rfl, ?_⟩) hHeld ?_
  rotate_left
  · intro w hSw
    go_simp <;> with_reducible rfl
  try simp only [Act.put, List.setIfInBounds_toArray, List.set_cons_zero, List.set_cons_succ]
  refine wpAnyH_done (by kernel_rfl) ?_ _
  refine NoPanic.normal ?_
  go_wp2_with fail
  go_ret
  exact ⟨rfl, HX3.out.1⟩
end Go.Proofs.Ythkodldldipimaa
