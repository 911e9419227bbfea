/- Texts that the proof of the law stands on: XLQ, XHand, ZR, ZY, ZL. -/
import Derived.Test.YthkodldldipimaaPartB
import Derived.Test.YthkodldldipimaaPartA
import Derived.Deep.RegionHeld3
/- ExpandParts: the walk. -/
namespace Go.Proofs.Ythkodldldipimaa
open Go.ChangeShapes Go.WideShapes Go.ChangeAt Go.RowKit
set_option linter.unusedVariables false
set_option linter.unusedSimpArgs false
theorem size_tm : (Try.prog.info? 29).map (·.size) = some 4 := by kernel_rfl
theorem catS {x y z : List UInt8} (h : x ++ y = z) (hz : z.length ≤ 8000000) (W : World) : (Op.stringOp .add ⟨x.toArray⟩ ⟨y.toArray⟩).run Try.prog W = .ok (.string ⟨z.toArray⟩) W := by
  subst h
  rw [List.length_append] at hz
  exact run_string_add_lists W x y (by omega) (by omega)
theorem Tr.fr {w0 w w1 w2 : World} {v : Value} {l : List Tm} {ob : Obj} {b : Nat} (h : Tr w0 v l w) (hb : w.heap.size = b) (e : w.alloc ob = w1) (f : Fr (On b) w1 w2) : Tr w0 v l w2 := by
  have h1 := h.kpp (kp_alloc w ob)
  rw [e] at h1
  refine ⟨row_fr h1.row f fun j hj q => ?_, h1.kp.trans (f.below h1.kp.size fun k hk q => ?_)⟩
  · unfold On at q; subst q
    have := (h.row.lt _ hj).2
    omega
  · unfold On at q; subst q
    have := h.kp.size
    omega
/-- What is known while the pieces are gathered. -/
structure Gt (w0 : World) (bm : Nat) (m : Mt) (v : Value) (l : List Tm) (w : World) : Prop where
  tr : Tr w0 v l w
  mt : Lc 25 bm m.cells w
  no : noC l
theorem tms_below {v : Value} {l : List Tm} {w w1 : World} (h : Tms v l w) (k : Kp w w1) : ∀ i t, l[i]? = some t → ∀ a n c, v = .slice a n c → ∃ B o, a = some ⟨B, o, none⟩ ∧ ∀ j, j < 4 → w1.cell? ⟨B, o + i * 4 + j, none⟩ = t.cells[j]? := by
  intro i t hi a n c e
  obtain ⟨a', cap, e', _, _, h3⟩ := h.kp k
  rw [e] at e'
  injection e' with e1 _ _
  obtain ⟨B, o, ea, _, hc⟩ := h3 i t hi
  exact ⟨B, o, e1.trans ea, hc⟩
-- THE WALK
set_option maxHeartbeats 8000000 in
set_option maxRecDepth 100000 in
theorem parts_walk {v v2 : Value} {l more : List Tm} {w : World} (h : Tms v l w) (hk : ∀ t ∈ l, TmOk t) (hz : ∀ t ∈ l, t.tx.length ≤ reachBytes) (h2 : Tms v2 more w) (hk2 : ∀ t ∈ more, TmOk t) (hz2 : ∀ t ∈ more, t.tx.length ≤ reachBytes) (L : ByteArray) (hL : L.size ≤ reachBytes) (m : Mt) (hm : m.fit) :
    Calls Try.prog 6 #[v, v2, .string L, .agg m.cells.toArray] w fun e w' => e = .returned (.bool true) ∧ Kp w w' := by
  obtain ⟨i9, hi9, z0, z1, z2⟩ := info_parts infoTm
  obtain ⟨dT, hT1, hT2⟩ := row_mt
  have HT : Hid (Try.prog.underlying 25 = some dT ∧ dT.isRow = true ∧ m.cells.length = 22) := ⟨hT1, hT2, Mt.len hm⟩
  obtain ⟨A, hA⟩ : ∃ A, hvF l L.size = A := ⟨_, rfl⟩
  obtain ⟨B, hB⟩ : ∃ B, hvF more L.size = B := ⟨_, rfl⟩
  have HH1 : Hid (∀ W, Kp w W → Calls Try.prog 10 #[v, .string L] W fun e w' => e = .returned (.bool A) ∧ w' = W) := fun W k => by rw [← hA]; exact heavy_any (h.kp k) L hL hz
  have HH2 : Hid (∀ W, Kp w W → Calls Try.prog 10 #[v2, .string L] W fun e w' => e = .returned (.bool B) ∧ w' = W) := fun W k => by rw [← hB]; exact heavy_any (h2.kp k) L hL hz2
  have HL1 : Hid (A = false → ∀ W, Kp w W → Calls Try.prog 9 #[v, .string L, .agg m.cells.toArray] W fun e w' => ∃ a n cap, e = .returned (.slice a n cap) ∧ Sl a n cap (linesF l L.data.toList m) w' ∧ Kp W w') := fun e W k =>
    lines_sl (h.kp k) L m hm (mod_of (by rw [e] at hA; simpa using hA) hk) rfl
  have HL2 : Hid (B = false → ∀ W, Kp w W → Calls Try.prog 9 #[v2, .string L, .agg m.cells.toArray] W fun e w' => ∃ a n cap, e = .returned (.slice a n cap) ∧ Sl a n cap (linesF more L.data.toList m) w' ∧ Kp W w') := fun e W k =>
    lines_sl (h2.kp k) L m hm (mod_of (by rw [e] at hB; simpa using hB) hk2) rfl
  have HMD : Hid (A = false → B = false → Mod (l ++ more) L.data.toList) := fun e1 e2 => by
    have a := mod_of (L := L.data.toList) (by rw [e1] at hA; simpa using hA) hk
    have b := mod_of (L := L.data.toList) (by rw [e2] at hB; simpa using hB) hk2
    have ha' : hvF l L.size = false := by rw [hA, e1]
    have hb' : hvF more L.size = false := by rw [hB, e2]
    unfold hvF at ha' hb'
    rw [Bool.or_eq_false_iff, decide_eq_false_iff_not, decide_eq_false_iff_not] at ha' hb'
    exact ⟨fun t ht => (List.mem_append.1 ht).elim (a.tx t) (b.tx t), a.ln, by rw [List.length_append]; omega⟩
  have HL3 : Hid (A = false → B = false → ∀ W u, Tms u (l ++ more) W → Calls Try.prog 9 #[u, .string L, .agg m.cells.toArray] W fun e w' => ∃ a n cap, e = .returned (.slice a n cap) ∧ Sl a n cap (linesF (l ++ more) L.data.toList m) w' ∧ Kp W w') := fun e1 e2 W u hu =>
    lines_sl hu L m hm (HMD.out e1 e2) rfl
  have HC1 : Hid _ := fun W (k : Kp w W) => tms_below h k
  have HC2 : Hid _ := fun W (k : Kp w W) => tms_below h2 k
  obtain ⟨va, vc, rfl, v1, v3, -⟩ := h
  obtain ⟨ua, uc, rfl, u1, u3, -⟩ := h2
  obtain ⟨n1, hn1⟩ : ∃ n1, l.length = n1 := ⟨_, rfl⟩
  obtain ⟨n2, hn2⟩ : ∃ n2, more.length = n2 := ⟨_, rfl⟩
  have HN : Hid (l.length = n1 ∧ more.length = n2) := ⟨hn1, hn2⟩
  rw [hn1] at HC1 HL1 HH1 v1 ⊢
  rw [hn2] at HC2 HL2 HH2 u1 ⊢
  unfold maxLen at v3 u3
  have HB : Hid (Lc 25 w.heap.size m.cells (w.alloc (.cells m.cells.toArray 25)) ∧ Kp w (w.alloc (.cells m.cells.toArray 25))) := ⟨Lc.new _ _ _, kp_alloc _ _⟩
  obtain ⟨W0, hW0⟩ : ∃ W0, w.alloc (.cells m.cells.toArray 25) = W0 := ⟨_, rfl⟩
  obtain ⟨bm, hbm⟩ : ∃ bm, w.heap.size = bm := ⟨_, rfl⟩
  rw [hW0, hbm] at HB
  have HS : Hid (A = false → B = false → n1 + n2 ≤ 80) := fun e1 e2 => by
    have ha' : hvF l L.size = false := by rw [hA, e1]
    have hb' : hvF more L.size = false := by rw [hB, e2]
    unfold hvF at ha' hb'
    rw [Bool.or_eq_false_iff, decide_eq_false_iff_not, decide_eq_false_iff_not] at ha' hb'
    omega
  clear hA hB hk hz hk2 hz2 hL hn1 hn2 hT1 hT2 hm
  cases A with
  | true =>
    clear HL1 HL2 HL3 HC1 HC2 HMD HS
    go_enter Try.func6, Try.ntmps6
    go_wp2_with (first | (go_at_call 10; refine Calls.mono (HH1.out _ HB.out.2) ?_; rintro e w1 ⟨rfl, rfl⟩) | (go_at_call 8; refine Calls.mono (oknown_any _) ?_; rintro e w2 ⟨rfl, k2⟩; have HK : Hid (Kp w w2) := kp_trans HB.out.2 k2; clear k2))
    go_ret
    exact ⟨rfl, HK.out⟩
  | false =>
  cases B with
  | true =>
    clear HL1 HL2 HL3 HC1 HC2 HMD HS
    go_enter Try.func6, Try.ntmps6
    go_upto_region 1 with fail
    clear hW0 hbm
    go_wp2_with fail
    refine Calls.mono (HH1.out _ HB.out.2) ?_
    rintro e w1 ⟨rfl, rfl⟩
    go_wp2_with fail
    refine Calls.mono (HH2.out _ HB.out.2) ?_
    rintro e w1 ⟨rfl, rfl⟩
    go_wp2_with fail
    refine Calls.mono (oknown_any _) ?_
    rintro e w2 ⟨rfl, k2⟩
    have HK : Hid (Kp w w2) := kp_trans HB.out.2 k2
    clear k2
    go_wp2_with fail
    go_ret
    exact ⟨rfl, HK.out⟩
  | false =>
  have hN80 := HS.out rfl rfl
  replace HMD : Hid (Mod (l ++ more) L.data.toList) := HMD.out rfl rfl
  replace HL1 : Hid (∀ W, Kp w W → Calls Try.prog 9 #[.slice va n1 vc, .string L, .agg m.cells.toArray] W fun e w' => ∃ a n cap, e = .returned (.slice a n cap) ∧ Sl a n cap (linesF l L.data.toList m) w' ∧ Kp W w') := HL1.out rfl
  replace HL2 : Hid (∀ W, Kp w W → Calls Try.prog 9 #[.slice ua n2 uc, .string L, .agg m.cells.toArray] W fun e w' => ∃ a n cap, e = .returned (.slice a n cap) ∧ Sl a n cap (linesF more L.data.toList m) w' ∧ Kp W w') := HL2.out rfl
  replace HL3 : Hid (∀ W u, Tms u (l ++ more) W → Calls Try.prog 9 #[u, .string L, .agg m.cells.toArray] W fun e w' => ∃ a n cap, e = .returned (.slice a n cap) ∧ Sl a n cap (linesF (l ++ more) L.data.toList m) w' ∧ Kp W w') := HL3.out rfl rfl
  obtain ⟨N, hN⟩ : ∃ N, n1 + n2 = N := ⟨_, rfl⟩
  rw [hN] at hN80
  have hsum : (n1 : Int) + (n2 : Int) = (N : Int) := by omega
  have HNN : Hid (n1 + n2 = N) := hN
  have hn1N : n1 ≤ N := by omega
  clear HS hN
  go_enter Try.func6, Try.ntmps6
  go_upto_region 1 with fail
  clear hW0 hbm
  go_wp2_with fail
  refine Calls.mono (HH1.out _ HB.out.2) ?_
  rintro e w1 ⟨rfl, e1⟩
  rw [e1]
  clear e1
  go_wp2_with fail
  refine Calls.mono (HH2.out _ HB.out.2) ?_
  rintro e w1' ⟨rfl, e1⟩
  rw [e1]
  clear e1
  go_wp2_with fail
  refine Calls.mono (oknown_any _) ?_
  rintro e w2 ⟨rfl, k2⟩
  have HK : Hid (Kp w w2 ∧ Lc 25 bm m.cells w2) := ⟨kp_trans HB.out.2 k2, HB.out.1.kp k2⟩
  clear k2 HB HH1 HH2
  go_wp2_with fail
  go_loopw [9, 10, 11, 12] (fun v9 v10 v11 v12 wr => ∃ (i : Nat) (a : Option Addr) (c c3 : Nat), i ≤ N ∧ v11 = .int .i64 i ∧ v10 = .int .i64 (c3 : Int) ∧ v9 = .slice a i c ∧ Hid (Gt w bm m (.slice a i c) ((l ++ more).take i) wr ∧ cnt3 ((l ++ more).take i) = c3)) (fun _ _ v11 _ _ => N - (intOf v11).toNat)
  case atStart => exact ⟨0, none, 0, 0, Nat.zero_le _, rfl, rfl, rfl, ⟨⟨World.ownsRow_nil _ _ _ _, HK.out.1⟩, HK.out.2, fun t ht => by cases ht⟩, rfl⟩
  case round =>
    obtain ⟨i, a, c, c3, hi, rfl, rfl, rfl, HI⟩ := hrel
    clear HK
    by_cases hlt : i < N
    · have dl : decide ((i : Int) < (N : Int)) = true := decide_eq_true (by omega)
      have hc3 : c3 ≤ i := by
        have := cnt3_le ((l ++ more).take i)
        rw [HI.out.2, List.length_take] at this
        omega
      obtain ⟨bx, hbx⟩ : ∃ bx, wr.heap.size = bx := ⟨_, rfl⟩
      obtain ⟨W1, hW1⟩ : ∃ W1, wr.alloc (.cells #[.int .u8 0, .string ⟨#[]⟩, .int .i64 0, .int .u8 0] 29) = W1 := ⟨_, rfl⟩
      have HX : Hid (Lc 29 bx [.int .u8 0, .string ⟨#[]⟩, .int .i64 0, .int .u8 0] W1 ∧ Kp w W1 ∧ wr.heap.size = bx ∧ wr.alloc (.cells #[.int .u8 0, .string ⟨#[]⟩, .int .i64 0, .int .u8 0] 29) = W1) := by
        refine ⟨?_, ?_, hbx, hW1⟩
        · rw [← hW1, ← hbx]; exact Lc.new wr [.int .u8 0, .string ⟨#[]⟩, .int .i64 0, .int .u8 0] 29
        · rw [← hW1]; exact kp_trans HI.out.1.tr.kp (kp_alloc _ _)
      go_upto_region 9 with (refine wpList_store_box HX.out.1 0 [.int .u8 0, .string ⟨#[]⟩, .int .i64 0, .int .u8 0] rfl 29 (.tmp 12) (.tmp 41) rfl rfl rfl (by decide) size_tm (tm_one ⟨0, [], 0, 0⟩) (sets_full _ _ rfl) ?_; intro Wz q1 q2 q3; have HY : Hid (Lc 29 bx [.int .u8 0, .string ⟨#[]⟩, .int .i64 0, .int .u8 0] Wz ∧ Fr (On bx) W1 Wz) := ⟨q1, q2⟩; clear q1 q2 q3)
      clear hW1 hbx
      have HZ : Hid (Kp w Wz) := HX.out.2.1.trans (HY.out.2.below HX.out.2.1.size fun k hk q => by unfold On at q; subst q; have := HI.out.1.tr.kp.size; rw [HX.out.2.2.1] at this; omega)
      by_cases hi1 : i < n1
      · have di : decide ((i : Int) < (n1 : Int)) = true := decide_eq_true (by omega)
        have di2 : decide (i < n1) = true := decide_eq_true (by omega)
        obtain ⟨t, ht⟩ : ∃ t, l[i]? = some t := ⟨_, List.getElem?_eq_getElem (by rw [HN.out.1]; exact hi1)⟩
        have HE : Hid ((l ++ more)[i]? = some t) := by show _ = _; rw [List.getElem?_append_left (by rw [HN.out.1]; exact hi1)]; exact ht
        obtain ⟨B, o, rfl, hc⟩ := HC1.out Wz HZ.out i t ht _ _ _ rfl
        have c0 := hc 0 (by omega)
        have c1 := hc 1 (by omega)
        have c2 := hc 2 (by omega)
        have c4 := hc 3 (by omega)
        obtain ⟨kd, tx, n, cc⟩ := t
        simp only [Tm.cells, List.getElem?_cons_zero, List.getElem?_cons_succ, Nat.add_zero] at c0 c1 c2 c4
        clear hc ht
        have HTK : Hid ((l ++ more).take (i + 1) = (l ++ more).take i ++ [⟨kd, tx, n, cc⟩]) := by show _ = _; rw [List.take_add_one, HE.out]; rfl
        go_upto_region 12 with (refine wpList_store_box HY.out.1 0 [.int .u8 kd, .string ⟨tx.toArray⟩, .int .i64 n, .int .u8 cc] rfl 29 (.tmp 12) (.tmp 49) rfl rfl rfl (Nat.le_refl 4) size_tm (tm_one ⟨kd, tx, n, cc⟩) (sets_full _ _ rfl) ?_; intro W2 q1 q2 q3; have H2 : Hid (Lc 29 bx [.int .u8 kd, .string ⟨tx.toArray⟩, .int .i64 n, .int .u8 cc] W2 ∧ Fr (On bx) W1 W2) := ⟨q1, HY.out.2.trans q2⟩; clear q1 q2 q3)
        have HG : Hid (Gt w bm m (.slice a i c) ((l ++ more).take i) W2 ∧ Kp w W2) := by
          have g1 := HI.out.1.tr.fr HX.out.2.2.1 HX.out.2.2.2 H2.out.2
          have l1 : Lc 25 bm m.cells W1 := by rw [← HX.out.2.2.2]; exact HI.out.1.mt.kp (kp_alloc _ _)
          exact ⟨⟨g1, l1.fr H2.out.2 (by have := HI.out.1.mt.lt; rw [HX.out.2.2.1] at this; unfold On; omega), HI.out.1.no⟩, g1.kp⟩
        have t0 : W2.cell? ⟨bx, 0, none⟩ = some (.int .u8 kd) := H2.out.1.at rfl
        have t1 : W2.cell? ⟨bx, 1, none⟩ = some (.string ⟨tx.toArray⟩) := H2.out.1.at rfl
        have t2 : W2.cell? ⟨bx, 2, none⟩ = some (.int .i64 n) := H2.out.1.at rfl
        have t3 : W2.cell? ⟨bx, 3, none⟩ = some (.int .u8 cc) := H2.out.1.at rfl
        clear c0 c1 c2 c4 H2 HX HY
        by_cases k4 : kd = 4
        · subst k4
          go_wp2_with fail
          go_ret
          exact ⟨rfl, HG.out.2⟩
        have e4 : ((kd : Int) == 4) = false := by simp; omega
        obtain ⟨bt, hbt⟩ : ∃ bt, W2.heap.size = bt := ⟨_, rfl⟩
        obtain ⟨W3, hW3⟩ : ∃ W3, W2.alloc (.cells #[.int .u8 kd, .string ⟨tx.toArray⟩, .int .i64 n, .int .u8 cc] 29) = W3 := ⟨_, rfl⟩
        have HKL : Hid (((l ++ more).take i).length = i) := by show _ = _; rw [List.length_take, List.length_append, HN.out.1, HN.out.2]; have := HNN.out; omega
        have HA : Hid (Gt w bm m (.slice a i c) ((l ++ more).take i) W3 ∧ W3.ownsRow w.heap.size 29 4 (.slice a i c) i (flatT ((l ++ more).take i)) ∧ (∀ j u, (Tm.cells ⟨kd, tx, n, cc⟩)[j]? = some u → W3.cell? ((⟨bt, 0, none⟩ : Addr).add j) = some u) ∧ w.heap.size ≤ W3.heap.size ∧ W3.heap.size = bt + 1) := by
          have h1 := HG.out.1.tr.kpp (kp_alloc W2 (.cells #[.int .u8 kd, .string ⟨tx.toArray⟩, .int .i64 n, .int .u8 cc] 29))
          have l1 := HG.out.1.mt.kp (kp_alloc W2 (.cells #[.int .u8 kd, .string ⟨tx.toArray⟩, .int .i64 n, .int .u8 cc] 29))
          rw [hW3] at h1 l1
          refine ⟨⟨h1, l1, HG.out.1.no⟩, by have := h1.row; rw [HKL.out] at this; exact this, ?_, h1.kp.size, by rw [← hW3, ← hbt]; exact alloc_size _ _⟩
          rw [← hW3, ← hbt]
          exact tm_news ⟨kd, tx, n, cc⟩ W2
        have HM : Hid (∀ g cap w4, w4.ownsRow w.heap.size 29 4 (.slice (some ⟨g, 0, none⟩) (i + 1) cap) (i + 1) (flatT ((l ++ more).take i) ++ Tm.cells ⟨kd, tx, n, cc⟩) → W3.grownBy w4 (Value.slice a i c).ownBlock → Gt w bm m (.slice (some ⟨g, 0, none⟩) (i + 1) cap) ((l ++ more).take (i + 1)) w4) := by
          intro g cap w4 q1 q2
          have h1 := HA.out.1.tr.snoc (t := ⟨kd, tx, n, cc⟩) (v' := .slice (some ⟨g, 0, none⟩) (i + 1) cap) (by rw [HKL.out]; exact q1) q2
          rw [← HTK.out] at h1
          refine ⟨h1, HA.out.1.mt.heap (q2.block _ HA.out.1.mt.lt fun e => row_ne HA.out.2.1 HA.out.1.mt (by decide) e.symm), ?_⟩
          rw [HTK.out]
          intro t ht
          rcases List.mem_append.1 ht with ht | ht
          · exact HI.out.1.no t ht
          · rw [List.mem_singleton] at ht; subst ht; exact k4
        by_cases k3 : kd = 3
        · have e3 : ((kd : Int) == 3) = true := by simp; omega
          have HC3 : Hid (cnt3 ((l ++ more).take (i + 1)) = c3 + 1) := by show _ = _; rw [HTK.out, cnt3_snoc, HI.out.2, if_pos k3]
          clear k3
          go_wp2_with (at_builtin; refine wpList_append_lies _ rfl (.tmp 65) (.tmp 67) 30 rfl w.heap.size 29 i9 _ 4 40 Try.underlying30 hi9 z0 z1 z2 rfl (by decide) (.slice a i c) i (flatT ((l ++ more).take i)) rfl HA.out.2.1 ⟨bt, 0, none⟩ 1 1 (Tm.cells ⟨kd, tx, n, cc⟩) rfl rfl HA.out.2.2.1 (tm_one _) (by omega) (by unfold maxLen; omega) (by omega) HA.out.2.2.2.1 (bt + 1) HA.out.2.2.2.2 ?_; intro g cap w4 q1 q2 q3 q4; have HF : Hid (Gt w bm m (.slice (some ⟨g, 0, none⟩) (i + 1) cap) ((l ++ more).take (i + 1)) w4) := HM.out g cap w4 q1 q2; clear q1 q2 q3 q4)
          go_roundw
          case rel => exact ⟨i + 1, some ⟨g, 0, none⟩, cap, c3 + 1, by omega, by go_num, by go_num, rfl, HF.out, HC3.out⟩
          case measure => simp only [intOf]; omega
        have e3 : ((kd : Int) == 3) = false := by simp; omega
        have HC3 : Hid (cnt3 ((l ++ more).take (i + 1)) = c3) := by show _ = _; rw [HTK.out, cnt3_snoc, HI.out.2, if_neg k3, Nat.add_zero]
        go_wp2_with (at_builtin; refine wpList_append_lies _ rfl (.tmp 65) (.tmp 67) 30 rfl w.heap.size 29 i9 _ 4 40 Try.underlying30 hi9 z0 z1 z2 rfl (by decide) (.slice a i c) i (flatT ((l ++ more).take i)) rfl HA.out.2.1 ⟨bt, 0, none⟩ 1 1 (Tm.cells ⟨kd, tx, n, cc⟩) rfl rfl HA.out.2.2.1 (tm_one _) (by omega) (by unfold maxLen; omega) (by omega) HA.out.2.2.2.1 (bt + 1) HA.out.2.2.2.2 ?_; intro g cap w4 q1 q2 q3 q4; have HF : Hid (Gt w bm m (.slice (some ⟨g, 0, none⟩) (i + 1) cap) ((l ++ more).take (i + 1)) w4) := HM.out g cap w4 q1 q2; clear q1 q2 q3 q4)
        go_roundw
        case rel => exact ⟨i + 1, some ⟨g, 0, none⟩, cap, c3, by omega, by go_num, rfl, rfl, HF.out, HC3.out⟩
        case measure => simp only [intOf]; omega
      have di : decide ((i : Int) < (n1 : Int)) = false := decide_eq_false (by omega)
      have di2 : decide (i < n1) = false := decide_eq_false (by omega)
      obtain ⟨j, hj⟩ : ∃ j, i - n1 = j := ⟨_, rfl⟩
      have hij : (i : Int) - (n1 : Int) = (j : Int) := by omega
      have hj2 : j < n2 := by have := HNN.out; omega
      obtain ⟨t, ht⟩ : ∃ t, more[j]? = some t := ⟨_, List.getElem?_eq_getElem (by rw [HN.out.2]; exact hj2)⟩
      have HE : Hid ((l ++ more)[i]? = some t) := by show _ = _; rw [List.getElem?_append_right (by rw [HN.out.1]; omega), HN.out.1, hj]; exact ht
      obtain ⟨B, o, rfl, hc⟩ := HC2.out Wz HZ.out j t ht _ _ _ rfl
      clear hj
      have c0 := hc 0 (by omega)
      have c1 := hc 1 (by omega)
      have c2 := hc 2 (by omega)
      have c4 := hc 3 (by omega)
      obtain ⟨kd, tx, n, cc⟩ := t
      simp only [Tm.cells, List.getElem?_cons_zero, List.getElem?_cons_succ, Nat.add_zero] at c0 c1 c2 c4
      clear hc ht
      have HTK : Hid ((l ++ more).take (i + 1) = (l ++ more).take i ++ [⟨kd, tx, n, cc⟩]) := by show _ = _; rw [List.take_add_one, HE.out]; rfl
      go_upto_region 12 with (refine wpList_store_box HY.out.1 0 [.int .u8 kd, .string ⟨tx.toArray⟩, .int .i64 n, .int .u8 cc] rfl 29 (.tmp 12) (.tmp 56) rfl rfl rfl (Nat.le_refl 4) size_tm (tm_one ⟨kd, tx, n, cc⟩) (sets_full _ _ rfl) ?_; intro W2 q1 q2 q3; have H2 : Hid (Lc 29 bx [.int .u8 kd, .string ⟨tx.toArray⟩, .int .i64 n, .int .u8 cc] W2 ∧ Fr (On bx) W1 W2) := ⟨q1, HY.out.2.trans q2⟩; clear q1 q2 q3)
      have HG : Hid (Gt w bm m (.slice a i c) ((l ++ more).take i) W2 ∧ Kp w W2) := by
        have g1 := HI.out.1.tr.fr HX.out.2.2.1 HX.out.2.2.2 H2.out.2
        have l1 : Lc 25 bm m.cells W1 := by rw [← HX.out.2.2.2]; exact HI.out.1.mt.kp (kp_alloc _ _)
        exact ⟨⟨g1, l1.fr H2.out.2 (by have := HI.out.1.mt.lt; rw [HX.out.2.2.1] at this; unfold On; omega), HI.out.1.no⟩, g1.kp⟩
      have t0 : W2.cell? ⟨bx, 0, none⟩ = some (.int .u8 kd) := H2.out.1.at rfl
      have t1 : W2.cell? ⟨bx, 1, none⟩ = some (.string ⟨tx.toArray⟩) := H2.out.1.at rfl
      have t2 : W2.cell? ⟨bx, 2, none⟩ = some (.int .i64 n) := H2.out.1.at rfl
      have t3 : W2.cell? ⟨bx, 3, none⟩ = some (.int .u8 cc) := H2.out.1.at rfl
      clear c0 c1 c2 c4 H2 HX HY
      by_cases k4 : kd = 4
      · subst k4
        go_wp2_with fail
        go_ret
        exact ⟨rfl, HG.out.2⟩
      have e4 : ((kd : Int) == 4) = false := by simp; omega
      obtain ⟨bt, hbt⟩ : ∃ bt, W2.heap.size = bt := ⟨_, rfl⟩
      obtain ⟨W3, hW3⟩ : ∃ W3, W2.alloc (.cells #[.int .u8 kd, .string ⟨tx.toArray⟩, .int .i64 n, .int .u8 cc] 29) = W3 := ⟨_, rfl⟩
      have HKL : Hid (((l ++ more).take i).length = i) := by show _ = _; rw [List.length_take, List.length_append, HN.out.1, HN.out.2]; have := HNN.out; omega
      have HA : Hid (Gt w bm m (.slice a i c) ((l ++ more).take i) W3 ∧ W3.ownsRow w.heap.size 29 4 (.slice a i c) i (flatT ((l ++ more).take i)) ∧ (∀ j u, (Tm.cells ⟨kd, tx, n, cc⟩)[j]? = some u → W3.cell? ((⟨bt, 0, none⟩ : Addr).add j) = some u) ∧ w.heap.size ≤ W3.heap.size ∧ W3.heap.size = bt + 1) := by
        have h1 := HG.out.1.tr.kpp (kp_alloc W2 (.cells #[.int .u8 kd, .string ⟨tx.toArray⟩, .int .i64 n, .int .u8 cc] 29))
        have l1 := HG.out.1.mt.kp (kp_alloc W2 (.cells #[.int .u8 kd, .string ⟨tx.toArray⟩, .int .i64 n, .int .u8 cc] 29))
        rw [hW3] at h1 l1
        refine ⟨⟨h1, l1, HG.out.1.no⟩, by have := h1.row; rw [HKL.out] at this; exact this, ?_, h1.kp.size, by rw [← hW3, ← hbt]; exact alloc_size _ _⟩
        rw [← hW3, ← hbt]
        exact tm_news ⟨kd, tx, n, cc⟩ W2
      have HM : Hid (∀ g cap w4, w4.ownsRow w.heap.size 29 4 (.slice (some ⟨g, 0, none⟩) (i + 1) cap) (i + 1) (flatT ((l ++ more).take i) ++ Tm.cells ⟨kd, tx, n, cc⟩) → W3.grownBy w4 (Value.slice a i c).ownBlock → Gt w bm m (.slice (some ⟨g, 0, none⟩) (i + 1) cap) ((l ++ more).take (i + 1)) w4) := by
        intro g cap w4 q1 q2
        have h1 := HA.out.1.tr.snoc (t := ⟨kd, tx, n, cc⟩) (v' := .slice (some ⟨g, 0, none⟩) (i + 1) cap) (by rw [HKL.out]; exact q1) q2
        rw [← HTK.out] at h1
        refine ⟨h1, HA.out.1.mt.heap (q2.block _ HA.out.1.mt.lt fun e => row_ne HA.out.2.1 HA.out.1.mt (by decide) e.symm), ?_⟩
        rw [HTK.out]
        intro t ht
        rcases List.mem_append.1 ht with ht | ht
        · exact HI.out.1.no t ht
        · rw [List.mem_singleton] at ht; subst ht; exact k4
      by_cases k3 : kd = 3
      · have e3 : ((kd : Int) == 3) = true := by simp; omega
        have HC3 : Hid (cnt3 ((l ++ more).take (i + 1)) = c3 + 1) := by show _ = _; rw [HTK.out, cnt3_snoc, HI.out.2, if_pos k3]
        clear k3
        go_wp2_with (at_builtin; refine wpList_append_lies _ rfl (.tmp 65) (.tmp 67) 30 rfl w.heap.size 29 i9 _ 4 40 Try.underlying30 hi9 z0 z1 z2 rfl (by decide) (.slice a i c) i (flatT ((l ++ more).take i)) rfl HA.out.2.1 ⟨bt, 0, none⟩ 1 1 (Tm.cells ⟨kd, tx, n, cc⟩) rfl rfl HA.out.2.2.1 (tm_one _) (by omega) (by unfold maxLen; omega) (by omega) HA.out.2.2.2.1 (bt + 1) HA.out.2.2.2.2 ?_; intro g cap w4 q1 q2 q3 q4; have HF : Hid (Gt w bm m (.slice (some ⟨g, 0, none⟩) (i + 1) cap) ((l ++ more).take (i + 1)) w4) := HM.out g cap w4 q1 q2; clear q1 q2 q3 q4)
        go_roundw
        case rel => exact ⟨i + 1, some ⟨g, 0, none⟩, cap, c3 + 1, by omega, by go_num, by go_num, rfl, HF.out, HC3.out⟩
        case measure => simp only [intOf]; omega
      have e3 : ((kd : Int) == 3) = false := by simp; omega
      have HC3 : Hid (cnt3 ((l ++ more).take (i + 1)) = c3) := by show _ = _; rw [HTK.out, cnt3_snoc, HI.out.2, if_neg k3, Nat.add_zero]
      go_wp2_with (at_builtin; refine wpList_append_lies _ rfl (.tmp 65) (.tmp 67) 30 rfl w.heap.size 29 i9 _ 4 40 Try.underlying30 hi9 z0 z1 z2 rfl (by decide) (.slice a i c) i (flatT ((l ++ more).take i)) rfl HA.out.2.1 ⟨bt, 0, none⟩ 1 1 (Tm.cells ⟨kd, tx, n, cc⟩) rfl rfl HA.out.2.2.1 (tm_one _) (by omega) (by unfold maxLen; omega) (by omega) HA.out.2.2.2.1 (bt + 1) HA.out.2.2.2.2 ?_; intro g cap w4 q1 q2 q3 q4; have HF : Hid (Gt w bm m (.slice (some ⟨g, 0, none⟩) (i + 1) cap) ((l ++ more).take (i + 1)) w4) := HM.out g cap w4 q1 q2; clear q1 q2 q3 q4)
      go_roundw
      case rel => exact ⟨i + 1, some ⟨g, 0, none⟩, cap, c3, by omega, by go_num, rfl, rfl, HF.out, HC3.out⟩
      case measure => simp only [intOf]; omega
    · obtain rfl : i = N := by omega
      have dl : decide ((i : Int) < (i : Int)) = false := by simp
      have HTK : Hid ((l ++ more).take i = l ++ more) := by show _ = _; rw [List.take_of_length_le (by rw [List.length_append, HN.out.1, HN.out.2]; have := HNN.out; omega)]
      rw [HTK.out] at HI
      clear HC1 HC2
      have HNO : Hid (noC l ∧ noC more ∧ cnt3 (l ++ more) = c3) := ⟨fun t ht => HI.out.1.no t (List.mem_append_left _ ht), fun t ht => HI.out.1.no t (List.mem_append_right _ ht), HI.out.2⟩
      have HP := parts_pure HNO.out.1 HNO.out.2.1 L.data.toList m
      obtain ⟨pre, x, b0, bs, p1, p2, p3⟩ := HP
      have hcn := parts_cnt (l := l ++ more) HI.out.1.no L.data.toList m
      rw [p3, HNO.out.2.2] at hcn
      obtain ⟨sm, sn⟩ := lines_small HMD.out m
      rw [p3] at sm sn
      have sx : (x ++ b0).length ≤ 1000000 := sm _ (by simp)
      have sb : ∀ y ∈ bs, y.length ≤ 1000000 := fun y hy => sm _ (by simp [hy])
      have HSB : Hid _ := sb
      clear sm sb
      rw [List.length_append, List.length_cons] at hcn sn
      obtain ⟨P, hP⟩ : ∃ P, pre.length = P := ⟨_, rfl⟩
      obtain ⟨Q, hQ⟩ : ∃ Q, bs.length = Q := ⟨_, rfl⟩
      rw [hP, hQ] at hcn sn
      have HLEN : Hid (linesF l L.data.toList m = pre ++ [x] ∧ linesF more L.data.toList m = b0 :: bs ∧ linesF (l ++ more) L.data.toList m = pre ++ (x ++ b0) :: bs ∧ pre.length = P ∧ bs.length = Q) := ⟨p1, p2, p3, hP, hQ⟩
      clear p1 p2 p3 hP hQ HNO HTK HN HNN
      go_upto_region 18 with (first | (refine wpList_load_box HI.out.1.mt 0 m.cells rfl 25 (.tmp 7) rfl rfl (List.take_of_length_le (Nat.le_refl _)) dT HT.out.1 HT.out.2.1 (by rw [HT.out.2.2]; exact size_mt) ?_) | (go_at_call 9; refine Calls.mono (HL1.out _ HI.out.1.tr.kp) ?_; rintro e x1 ⟨a1, m1, c1, rfl, q1, q2⟩; have H1 : Hid (Sl a1 m1 c1 (pre ++ [x]) x1 ∧ Gt w bm m (.slice a i c) (l ++ more) x1) := ⟨by rw [← HLEN.out.1]; exact q1, HI.out.1.tr.kpp q2, HI.out.1.mt.kp q2, HI.out.1.no⟩; clear q1 q2))
      clear HI
      go_upto_region 19 with (first | (refine wpList_load_box H1.out.2.mt 0 m.cells rfl 25 (.tmp 7) rfl rfl (List.take_of_length_le (Nat.le_refl _)) dT HT.out.1 HT.out.2.1 (by rw [HT.out.2.2]; exact size_mt) ?_) | (go_at_call 9; refine Calls.mono (HL2.out _ H1.out.2.tr.kp) ?_; rintro e x2 ⟨a2, m2, c2, rfl, q1, q2⟩; have H2 : Hid (Sl a1 m1 c1 (pre ++ [x]) x2 ∧ Sl a2 m2 c2 (b0 :: bs) x2 ∧ Gt w bm m (.slice a i c) (l ++ more) x2) := ⟨H1.out.1.kp q2, by rw [← HLEN.out.2.1]; exact q1, H1.out.2.tr.kpp q2, H1.out.2.mt.kp q2, H1.out.2.no⟩; clear q1 q2))
      clear H1
      go_upto_region 20 with (first | (refine wpList_load_box H2.out.2.2.mt 0 m.cells rfl 25 (.tmp 7) rfl rfl (List.take_of_length_le (Nat.le_refl _)) dT HT.out.1 HT.out.2.1 (by rw [HT.out.2.2]; exact size_mt) ?_) | (go_at_call 9; refine Calls.mono (HL3.out _ _ H2.out.2.2.tr.tms) ?_; rintro e x3 ⟨a3, m3, cp3, rfl, q1, q2⟩; have H3 : Hid (Sl a1 m1 c1 (pre ++ [x]) x3 ∧ Sl a2 m2 c2 (b0 :: bs) x3 ∧ Sl a3 m3 cp3 (pre ++ (x ++ b0) :: bs) x3 ∧ Kp w x3) := ⟨H2.out.1.kp q2, H2.out.2.1.kp q2, by rw [← HLEN.out.2.2.1]; exact q1, kp_trans H2.out.2.2.tr.kp q2⟩; clear q1 q2))
      clear H2
      have hm1 : P + 1 = m1 := by have := H3.out.1.len; rw [List.length_append, HLEN.out.2.2.2.1] at this; exact this
      have hm2 : Q + 1 = m2 := by have := H3.out.2.1.len; rw [List.length_cons, HLEN.out.2.2.2.2] at this; exact this
      have hm3 : P + (Q + 1) = m3 := by have := H3.out.2.2.1.len; rw [List.length_append, List.length_cons, HLEN.out.2.2.2.1, HLEN.out.2.2.2.2] at this; exact this
      have l1 := H3.out.1.le
      have l2 := H3.out.2.1.le
      have l3 := H3.out.2.2.1.le
      have l1' := H3.out.1.cap
      have l2' := H3.out.2.1.cap
      have l3' := H3.out.2.2.1.cap
      unfold maxLen at l1' l2' l3'
      obtain ⟨S2, hS2⟩ : ∃ S2, m1 + m2 = S2 := ⟨_, rfl⟩
      have f1 : ((m1 : Int) == 0) = false := by simp; omega
      have f2 : ((m2 : Int) == 0) = false := by simp; omega
      have f3 : (c3 : Int) + 1 = (m3 : Int) := by omega
      have f4 : ((m3 : Int) != (m3 : Int)) = false := by simp
      have f5 : (m1 : Int) + (m2 : Int) = (S2 : Int) := by omega
      have f6 : (m3 : Int) + 1 = (S2 : Int) := by omega
      have f7 : ((S2 : Int) != (S2 : Int)) = false := by simp
      have HMM : Hid (P + 1 = m1 ∧ Q + 1 = m2 ∧ P + (Q + 1) = m3 ∧ m3 ≤ 1001) := ⟨hm1, hm2, hm3, by omega⟩
      have b3 : m3 ≤ 1001 := by omega
      have b1 : m1 ≤ 1001 := by omega
      clear hm1 hm2 hm3 hcn sn hS2
      go_wp2_with fail
      clear f1 f2 f3 f4 f5 f6 f7 dl hsum hn1N
      go_loopw [16, 17, 18] (fun v16 v17 v18 wr2 => ∃ (j : Nat), j ≤ m3 ∧ v16 = .int .i64 j ∧ wr2 = x3) (fun v16 _ _ _ => m3 - (intOf v16).toNat)
      case atStart => exact ⟨0, Nat.zero_le _, rfl, rfl⟩
      case round =>
        obtain ⟨j, hj, rfl, rfl⟩ := hrel
        by_cases hjl : j < m3
        · have dj : decide ((j : Int) < (m3 : Int)) = true := decide_eq_true (by omega)
          obtain ⟨z, hz⟩ : ∃ z : Int, (j : Int) - (m1 : Int) = z := ⟨_, rfl⟩
          obtain ⟨y, hy⟩ : ∃ y : Int, z + 1 = y := ⟨_, rfl⟩
          by_cases hA : j < P
          · have da : decide ((j : Int) < (m1 : Int)) = true := decide_eq_true (by have := HMM.out; omega)
            have da' : decide (j < m1) = true := decide_eq_true (by have := HMM.out; omega)
            have dy : decide (y ≥ 0) = false := decide_eq_false (by have := HMM.out; omega)
            have dy' : decide (0 ≤ y) = false := decide_eq_false (by have := HMM.out; omega)
            have hPl : j < pre.length := by rw [HLEN.out.2.2.2.1]; exact hA
            obtain ⟨s, hs⟩ : ∃ s, pre[j]? = some s := ⟨_, List.getElem?_eq_getElem hPl⟩
            obtain ⟨g1, rfl, _, cA⟩ := H3.out.1.at_ j s (by rw [List.getElem?_append_left hPl]; exact hs)
            obtain ⟨g3, rfl, _, cC⟩ := H3.out.2.2.1.at_ j s (by rw [List.getElem?_append_left hPl]; exact hs)
            have hj1 : j < m1 := by have := HMM.out; omega
            clear hs hPl
            go_wp2_with fail
            go_roundw
            case rel => exact ⟨j + 1, by omega, by go_num, trivial⟩
            case measure => simp only [intOf]; omega
          by_cases hB : j = P
          · have da : decide ((j : Int) < (m1 : Int)) = true := decide_eq_true (by have := HMM.out; omega)
            have da' : decide (j < m1) = true := decide_eq_true (by have := HMM.out; omega)
            have hy0 : y = ((0 : Nat) : Int) := by have := HMM.out; omega
            have hPl : pre.length = j := by rw [HLEN.out.2.2.2.1, hB]
            obtain ⟨g1, rfl, _, cA⟩ := H3.out.1.at_ j x (by rw [List.getElem?_append_right (by omega), hPl, Nat.sub_self]; rfl)
            obtain ⟨g2, rfl, _, cB⟩ := H3.out.2.1.at_ 0 b0 rfl
            obtain ⟨g3, rfl, _, cC⟩ := H3.out.2.2.1.at_ j (x ++ b0) (by rw [List.getElem?_append_right (by omega), hPl, Nat.sub_self]; rfl)
            obtain ⟨xb, hxb⟩ : ∃ xb, x ++ b0 = xb := ⟨_, rfl⟩
            have ct : ∀ W, (Op.stringOp .add ⟨x.toArray⟩ ⟨b0.toArray⟩).run Try.prog W = .ok (.string ⟨xb.toArray⟩) W := fun W => catS hxb (by rw [← hxb]; omega) W
            rw [hxb] at cC
            have hj1 : j < m1 := by have := HMM.out; omega
            have hj2 : 0 < m2 := by have := HMM.out; omega
            have hzy : z + 1 = 0 := by rw [hy, hy0]; rfl
            subst hy0
            clear hPl hxb hB hy
            go_wp2_with fail
            go_roundw
            case rel => exact ⟨j + 1, by omega, by go_num, trivial⟩
            case measure => simp only [intOf]; omega
          · have da : decide ((j : Int) < (m1 : Int)) = false := decide_eq_false (by have := HMM.out; omega)
            have da' : decide (j < m1) = false := decide_eq_false (by have := HMM.out; omega)
            obtain ⟨k, hk⟩ : ∃ k : Nat, k + P = j := ⟨j - P, by omega⟩
            have hyk : y = (k : Int) := by have := HMM.out; omega
            subst hyk
            have hk1 : k < m2 := by have := HMM.out; omega
            have dy : decide ((k : Int) ≥ 0) = true := decide_eq_true (by omega)
            have dy' : decide (0 ≤ (k : Int)) = true := decide_eq_true (by omega)
            obtain ⟨k', rfl⟩ : ∃ k', k = k' + 1 := ⟨k - 1, by omega⟩
            have hkb : k' < bs.length := by rw [HLEN.out.2.2.2.2]; have := HMM.out; omega
            obtain ⟨s, hs⟩ : ∃ s, bs[k']? = some s := ⟨_, List.getElem?_eq_getElem hkb⟩
            have hsl := HSB.out s (List.mem_of_getElem? hs)
            obtain ⟨kk, hkk⟩ : ∃ kk, k' + 1 = kk := ⟨_, rfl⟩
            obtain ⟨g2, rfl, _, cB⟩ := H3.out.2.1.at_ kk s (by rw [← hkk, List.getElem?_cons_succ]; exact hs)
            obtain ⟨g3, rfl, _, cC⟩ := H3.out.2.2.1.at_ j s (by rw [List.getElem?_append_right (by rw [HLEN.out.2.2.2.1]; omega), HLEN.out.2.2.2.1, show j - P = k' + 1 by omega, List.getElem?_cons_succ]; exact hs)
            have ct : ∀ W, (Op.stringOp .add ⟨#[]⟩ ⟨s.toArray⟩).run Try.prog W = .ok (.string ⟨s.toArray⟩) W := fun W => catS (x := []) (z := s) rfl (by omega) W
            rw [hkk] at hy hk1 dy dy'
            clear hs hkb hk hkk hA hB
            go_wp2_with fail
            go_roundw
            case rel => exact ⟨j + 1, by omega, by go_num, trivial⟩
            case measure => simp only [intOf]; omega
        · obtain rfl : j = m3 := by omega
          have dj : decide ((j : Int) < (j : Int)) = false := by simp
          go_wp2_with fail
          go_ret
          exact ⟨rfl, H3.out.2.2.2⟩
end Go.Proofs.Ythkodldldipimaa
/- Steps of a region that draws its order. -/
namespace Go.Proofs.Ythkodldldipimaa
open Go.ChangeShapes Go.WideShapes Go.ChangeAt Go.RowKit
set_option linter.unusedVariables false
set_option linter.unusedSimpArgs false
theorem takeAt {P : Program} {ops : Array Oper} {Q : Exit → Act → World → Prop} {md : Region.Mode} {S : World → Prop} (i : Nat) (dst : Option Tmp) (v : Value) {oi : Oper} {fuel : Nat} {listed : Array Bool} {a : Act} {w : World} (hi : ops[i]? = some oi) (hd : oi.dst = dst)
    (hs : Region.noSelect ops = true) (hf : Region.free md ops listed i = true) (hr : (Region.ready md ops listed).contains i = true)
    (hQ : ∀ c a w, Q (.panic c) (a.put dst v) w → Q (.panic c) a w) (hy : YieldsIf P ops S oi v a) (hS : S w)
    (h : wpAnyH P md ops Q S fuel (listed.setIfInBounds i true) (a.put dst v) w) : wpAnyH P md ops Q S (fuel + 1) listed a w := by
  subst hd
  exact wpAnyH_take hi hs hf hr hQ hy hS h
/-- The call of a Go function comes up alone. -/
theorem callAt {P : Program} {ops : Array Oper} {Q : Exit → Act → World → Prop} {md : Region.Mode} {S : World → Prop} (i : Nat) (d : Tmp) (f : FuncId) {o : Oper} {fn : Func} {fuel : Nat} {listed : Array Bool} {a : Act} {w : World} {xs : Array Operand} {ats : Array TypeId} {vals : Array Value}
    (hr : Region.ready md ops listed = [i]) (ho : ops[i]? = some o) (hop : o.op = .call { callee := .value (.func f), args := xs, argTypes := ats }) (hd : o.dst = some d) (hg : o.guard = none) (hv : xs.map a.eval = vals)
    (hf : P.funcs[f]? = some fn) (hn : (fn.name == "runtime.NumGoroutine") = false) (hb : fn.body.isNone = false)
    (h : Calls P f vals w fun e w' => ∃ v, e = .returned v ∧ S w' ∧ (S w' → wpAnyH P md ops Q S fuel (listed.setIfInBounds i true) (a.put (some d) v) w')) : wpAnyH P md ops Q S (fuel + 1) listed a w := by
  refine wpAnyH_ready hr (by simp) ?_
  refine AllReadyH.cons ho (fun K hK => ?_) AllReadyH.nil
  have hw : Region.wanted o (yielded ops a.tmps) = true := by simp [Region.wanted, hg]
  rw [if_pos hw]
  obtain ⟨dst, op, type, pos, after, guard⟩ := o
  simp only at hop hd hg
  subst hop; subst hd; subst hg
  unfold Oper.wp
  rw [execOp_call_go, show (#[] ++ xs.map a.eval ++ #[]) = vals by simp [hv], run_callGo vals w hf hn hb]
  simp only [Oper.upon]
  refine Calls.mono h ?_
  rintro e w' ⟨v, rfl, hS, hW⟩
  exact hK.out _ _ hS hW
theorem callAtG {P : Program} {ops : Array Oper} {Q : Exit → Act → World → Prop} {md : Region.Mode} {S : World → Prop} (i : Nat) (d : Tmp) (f : FuncId) {o : Oper} {fn : Func} {fuel : Nat} {listed : Array Bool} {a : Act} {w : World} {xs : Array Operand} {ats : Array TypeId} {vals : Array Value}
    (hr : Region.ready md ops listed = [i]) (ho : ops[i]? = some o) (hop : o.op = .call { callee := .value (.func f), args := xs, argTypes := ats }) (hd : o.dst = some d) (hw : Region.wanted o (yielded ops a.tmps) = true) (hv : xs.map a.eval = vals)
    (hf : P.funcs[f]? = some fn) (hn : (fn.name == "runtime.NumGoroutine") = false) (hb : fn.body.isNone = false)
    (h : Calls P f vals w fun e w' => ∃ v, e = .returned v ∧ S w' ∧ (S w' → wpAnyH P md ops Q S fuel (listed.setIfInBounds i true) (a.put (some d) v) w')) : wpAnyH P md ops Q S (fuel + 1) listed a w := by
  refine wpAnyH_ready hr (by simp) ?_
  refine AllReadyH.cons ho (fun K hK => ?_) AllReadyH.nil
  rw [if_pos hw]
  obtain ⟨dst, op, type, pos, after, guard⟩ := o
  simp only at hop hd
  subst hop; subst hd
  unfold Oper.wp
  rw [execOp_call_go, show (#[] ++ xs.map a.eval ++ #[]) = vals by simp [hv], run_callGo vals w hf hn hb]
  simp only [Oper.upon]
  refine Calls.mono h ?_
  rintro e w' ⟨v, rfl, hS, hW⟩
  exact hK.out _ _ hS hW
end Go.Proofs.Ythkodldldipimaa
/- The document's Lines: its parts. -/
namespace Go.Proofs.Ythkodldldipimaa
open Go.ChangeShapes Go.WideShapes Go.ChangeAt Go.RowKit
set_option linter.unusedVariables false
set_option linter.unusedSimpArgs false
/-- What lay below 'n0' is as it was, and so is all that is no laying, no line, no byte. -/
structure Kz (n0 : Nat) (w w' : World) : Prop where
  bel : Below n0 w w'
  oth : ∀ (k : Nat) (c : Array Value) (e : TypeId) (f : Nat × Nat), w.heap[k]? = some (Obj.cells c e f) → e ≠ 50 → e ≠ 9 → e ≠ 5 → w'.heap[k]? = some (Obj.cells c e f)
section
variable {n0 : Nat} {w w1 w2 : World}
theorem Kz.refl (n0 : Nat) (w : World) : Kz n0 w w := ⟨Below.refl _ _, fun _ _ _ _ h _ _ _ => h⟩
theorem Kz.trans (h : Kz n0 w w1) (k : Kz n0 w1 w2) : Kz n0 w w2 := ⟨h.bel.trans k.bel, fun j c e f q a b d => k.oth j c e f (h.oth j c e f q a b d) a b d⟩
theorem Kz.kp (k : Kp w w1) (hn : n0 ≤ w.heap.size) : Kz n0 w w1 := ⟨k.mono hn, fun j c e f q _ _ _ => by rw [k.block j (Array.getElem?_eq_some_iff.1 q).1]; exact q⟩
theorem Kz.size (h : Kz n0 w w1) : w.heap.size ≤ w1.heap.size := h.bel.size
theorem Kz.set {b off : Nat} {l : List Value} (h : Lc 50 b l w) (hb : n0 ≤ b) (v : Value) : Kz n0 w (w.setCell ⟨b, off, none⟩ v) :=
  ⟨⟨rfl, rfl, rfl, by rw [size_setCell]; exact Nat.le_refl _, fun k hk => heap_setCell_other (by omega)⟩, fun k c e f q a _ _ => by
    rw [heap_setCell_other]; · exact q
    rintro rfl
    unfold Lc at h
    rw [h] at q
    injection q with q
    injection q with _ q
    exact a q.symm⟩
theorem Kz.grown {v : Value} {e : TypeId} {size n : Nat} {xs : List Value} (hr : w.ownsRow n0 e size v n xs) (he : e = 9 ∨ e = 5) (hn : n0 ≤ w.heap.size) (hg : w.grownBy w1 v.ownBlock) : Kz n0 w w1 := by
  refine ⟨⟨hg.os, hg.tape, hg.output, hg.size, fun k hk => hg.block k (by omega) fun e => by have := (hr.lt k e.symm).1; omega⟩, fun k c e' f q _ a b => ?_⟩
  · rw [hg.block k (Array.getElem?_eq_some_iff.1 q).1 fun e1 => ?_]
    · exact q
    rcases hr.2 with ⟨z, _⟩ | ⟨g, cap, cur, z, hb, hgg, _⟩
    · rw [z] at e1; cases e1
    · rw [z] at e1
      simp only [Value.ownBlock, Option.some.injEq] at e1
      subst e1
      rw [hgg] at q
      injection q with q
      injection q with _ q
      rcases he with rfl | rfl
      · exact a q.symm
      · exact b q.symm
end
set_option maxHeartbeats 4000000 in
set_option maxRecDepth 100000 in
theorem zgroup_any (L : ByteArray) (m : Mt) (hm : m.fit) (n : Int) (w : World) :
    Calls Try.prog 20 #[.string L, .agg m.cells.toArray, .int .i64 n] w fun e w' => e = .returned (.string ⟨(grpF L.data.toList m n).toArray⟩) ∧ Kp w w' := by
  have HK : Hid (Kp w (w.alloc (.cells m.cells.toArray 25))) := kp_alloc _ _
  by_cases h0 : n < 0 ∨ 10 ≤ n
  · have e0 : grpF L.data.toList m n = [] := by unfold grpF; rw [if_pos h0]
    rw [e0]
    clear e0
    by_cases h1 : n < 0
    · have d1 : decide (n < 0) = true := decide_eq_true h1
      clear h0
      go_enter Try.func20, Try.ntmps20
      go_wp2_with fail
      go_ret
      exact ⟨rfl, HK.out⟩
    · have h2 : 10 ≤ n := by omega
      have d1 : decide (n < 0) = false := decide_eq_false h1
      have d2 : decide (n > 9) = true := decide_eq_true (by omega)
      have d2' : decide (9 < n) = true := decide_eq_true (by omega)
      clear h0
      go_enter Try.func20, Try.ntmps20
      go_wp2_with fail
      go_ret
      exact ⟨rfl, HK.out⟩
  obtain ⟨k, rfl⟩ : ∃ k : Nat, n = (k : Int) := ⟨n.toNat, by omega⟩
  have hk : k < 10 := by omega
  have d1 : decide ((k : Int) < 0) = false := decide_eq_false (by omega)
  have d2 : decide ((k : Int) > 9) = false := decide_eq_false (by omega)
  have d2' : decide (9 < (k : Int)) = false := decide_eq_false (by omega)
  have d2'' : decide (9 < k) = false := decide_eq_false (by omega)
  have hL := Lc.new w m.cells 25
  have c1 := hL.at (Mt.getB hm hk)
  have c2 := hL.at (Mt.getE hm hk)
  obtain ⟨B, hB⟩ : ∃ B, m.bg.getD k 0 = B := ⟨_, rfl⟩
  obtain ⟨E, hE⟩ : ∃ E, m.ed.getD k 0 = E := ⟨_, rfl⟩
  rw [hB] at c1
  rw [hE] at c2
  obtain ⟨N, hN⟩ : ∃ N, L.size = N := ⟨_, rfl⟩
  have hNl : L.data.toList.length = N := by rw [← hN]; simp
  have eg : grpF L.data.toList m (k : Int) = if B < 0 ∨ E < B ∨ (N : Int) < E then [] else (L.data.toList.drop B.toNat).take (E.toNat - B.toNat) := by
    unfold grpF
    rw [if_neg (by omega)]
    simp only [Int.toNat_natCast, hB, hE, hNl]
  obtain ⟨W, hW⟩ : ∃ W, w.alloc (.cells m.cells.toArray 25) = W := ⟨_, rfl⟩
  have HW : Hid (w.alloc (.cells m.cells.toArray 25) = W) := hW
  rw [hW] at c1 c2 HK
  have HD : Hid (∀ n, Kp w (W.drewN n)) := fun n => kp_trans HK.out (kp_drewN _ _)
  have HZ : Hid (L.size = N) := hN
  rw [eg]
  clear h0 hL hB hE hW hNl eg HK
  by_cases h1 : B < 0
  · have b1 : decide (B < 0) = true := decide_eq_true h1
    rw [if_pos (.inl h1)]
    go_enter Try.func20, Try.ntmps20
    go_upto_region 3 with fail
    rw [HW.out]
    go_wp2_with fail
    go_ret
    exact ⟨rfl, HD.out 0⟩
  have b1 : decide (B < 0) = false := decide_eq_false h1
  by_cases h2 : E < B
  · have b2 : decide (E < B) = true := decide_eq_true h2
    rw [if_pos (.inr (.inl h2))]
    go_enter Try.func20, Try.ntmps20
    go_upto_region 3 with fail
    rw [HW.out]
    go_wp2_with fail
    go_ret
    exact ⟨rfl, HD.out 0⟩
  have b2 : decide (E < B) = false := decide_eq_false h2
  by_cases h3 : (N : Int) < E
  · have b3 : decide ((N : Int) < E) = true := decide_eq_true h3
    rw [if_pos (.inr (.inr h3))]
    go_enter Try.func20, Try.ntmps20
    go_upto_region 3 with fail
    rw [HW.out]
    go_wp2_with fail
    go_ret
    exact ⟨rfl, HD.out 0⟩
  have b3 : decide ((N : Int) < E) = false := decide_eq_false h3
  rw [if_neg (by omega)]
  obtain ⟨x, rfl⟩ : ∃ x : Nat, B = (x : Int) := ⟨B.toNat, by omega⟩
  obtain ⟨y, rfl⟩ : ∃ y : Nat, E = (y : Int) := ⟨E.toNat, by omega⟩
  have HE : Hid ((⟨((L.data.toList.drop x).take (y - x)).toArray⟩ : ByteArray) = L.extract x y) := by
    show _ = _
    apply ByteArray.ext
    rw [ByteArray.data_extract]
    apply Array.toList_inj.1
    simp [List.extract]
  simp only [Int.toNat_natCast]
  rw [HE.out]
  have h2' : x ≤ y := by omega
  have h3' : y ≤ N := by omega
  go_enter Try.func20, Try.ntmps20
  go_upto_region 3 with fail
  rw [HW.out]
  go_wp2_with fail
  go_ret
  exact ⟨rfl, HD.out 0⟩
def ltOf (h : Nat) : Lt := if h = 117 ∨ h = 85 then .gr else if h = 108 ∨ h = 76 then .sm else .as
theorem cased_any (c : UInt8) (h : Nat) (w : World) :
    Calls Try.prog 24 #[.int .u8 c.toNat, .int .u8 h] w fun e w' => e = .returned (.int .u8 (((ltOf h).ap c).toNat : Int)) ∧ w' = w := by
  have HG : Hid (Calls Try.prog 27 #[.int .u8 c.toNat] w fun e w' => e = .returned (.int .u8 ((grB c).toNat : Int)) ∧ w' = w) := by
    have := rGreat_any (c.toNat : Int) w; rw [grI_toNat] at this; exact this
  have HS : Hid (Calls Try.prog 28 #[.int .u8 c.toNat] w fun e w' => e = .returned (.int .u8 ((smB c).toNat : Int)) ∧ w' = w) := by
    have := rSmall_any (c.toNat : Int) w; rw [smI_toNat] at this; exact this
  obtain ⟨C, hC⟩ : ∃ C : Nat, c.toNat = C := ⟨_, rfl⟩
  by_cases h1 : h = 117
  · have e : (ltOf h).ap c = grB c := by subst h1; rfl
    rw [e]
    subst h1
    clear e
    obtain ⟨R, hR⟩ : ∃ R : Nat, (grB c).toNat = R := ⟨_, rfl⟩
    rw [hR] at HG ⊢
    rw [hC] at HG ⊢
    clear hR hC HS
    go_enter Try.func24, Try.ntmps24
    go_wp2_with (go_at_call 27; refine Calls.mono HG.out ?_; rintro e w' ⟨rfl, rfl⟩)
    go_ret
    exact ⟨rfl, rfl⟩
  by_cases h2 : h = 85
  · have e : (ltOf h).ap c = grB c := by subst h2; rfl
    rw [e]
    subst h2
    clear e
    obtain ⟨R, hR⟩ : ∃ R : Nat, (grB c).toNat = R := ⟨_, rfl⟩
    rw [hR] at HG ⊢
    rw [hC] at HG ⊢
    clear hR hC HS
    go_enter Try.func24, Try.ntmps24
    go_wp2_with (go_at_call 27; refine Calls.mono HG.out ?_; rintro e w' ⟨rfl, rfl⟩)
    go_ret
    exact ⟨rfl, rfl⟩
  by_cases h3 : h = 108
  · have e : (ltOf h).ap c = smB c := by subst h3; rfl
    rw [e]
    subst h3
    clear e
    obtain ⟨R, hR⟩ : ∃ R : Nat, (smB c).toNat = R := ⟨_, rfl⟩
    rw [hR] at HS ⊢
    rw [hC] at HS ⊢
    clear hR hC HG
    go_enter Try.func24, Try.ntmps24
    go_wp2_with (go_at_call 28; refine Calls.mono HS.out ?_; rintro e w' ⟨rfl, rfl⟩)
    go_ret
    exact ⟨rfl, rfl⟩
  by_cases h4 : h = 76
  · have e : (ltOf h).ap c = smB c := by subst h4; rfl
    rw [e]
    subst h4
    clear e
    obtain ⟨R, hR⟩ : ∃ R : Nat, (smB c).toNat = R := ⟨_, rfl⟩
    rw [hR] at HS ⊢
    rw [hC] at HS ⊢
    clear hR hC HG
    go_enter Try.func24, Try.ntmps24
    go_wp2_with (go_at_call 28; refine Calls.mono HS.out ?_; rintro e w' ⟨rfl, rfl⟩)
    go_ret
    exact ⟨rfl, rfl⟩
  have e : (ltOf h).ap c = c := by unfold ltOf; rw [if_neg (by omega), if_neg (by omega)]; rfl
  rw [e]
  have e1 : ((h : Int) == 117) = false := by simp; omega
  have e2 : ((h : Int) == 85) = false := by simp; omega
  have e3 : ((h : Int) == 108) = false := by simp; omega
  have e4 : ((h : Int) == 76) = false := by simp; omega
  clear HG HS e
  rw [hC]
  clear hC
  go_enter Try.func24, Try.ntmps24
  go_wp2_with fail
  go_ret
  exact ⟨rfl, rfl⟩
/-- The document's page: lines that are done, the last one, what is said of the next byte, of all. -/
structure Ly where
  ls : List (List UInt8)
  op : List UInt8
  nx : Nat
  al : Nat
def Ly.how (y : Ly) : Nat := if y.nx = 0 then y.al else y.nx
def Ly.put (y : Ly) (c : UInt8) : Ly := { y with nx := 0, op := y.op ++ [(ltOf y.how).ap c] }
def Ly.lay (y : Ly) (s : List UInt8) : Ly := s.foldl Ly.put y
theorem ly_snoc (y : Ly) (s : List UInt8) (c : UInt8) : y.lay (s ++ [c]) = (y.lay s).put c := by simp [Ly.lay]
theorem ly_len (y : Ly) (s : List UInt8) : (y.lay s).op.length = y.op.length + s.length ∧ (y.lay s).ls = y.ls ∧ (y.lay s).al = y.al := by
  induction s generalizing y with
  | nil => exact ⟨rfl, rfl, rfl⟩
  | cons c s ih =>
    obtain ⟨h1, h2, h3⟩ := ih (y.put c)
    refine ⟨?_, h2, h3⟩
    show ((y.put c).lay s).op.length = _
    rw [h1]
    simp [Ly.put]
    omega
/-- It in memory. -/
structure Yw (n0 b : Nat) (y : Ly) (vl : Value) (w : World) : Prop where
  box : Lc 50 b [vl, .int .u8 y.nx, .int .u8 y.al] w
  row : w.ownsRow n0 9 1 vl (y.ls.length + 1) (strs (y.ls ++ [y.op]))
  ge : n0 ≤ b
def Yc (n0 b : Nat) (y : Ly) (w w' : World) : Prop := ∃ vl, Yw n0 b y vl w' ∧ Kz n0 w w'
section
variable {n0 b : Nat} {y : Ly} {vl : Value} {w w1 : World}
theorem Yw.kp (h : Yw n0 b y vl w) (k : Kp w w1) : Yw n0 b y vl w1 := ⟨h.box.kp k, row_kp h.row k, h.ge⟩
theorem Yw.le (h : Yw n0 b y vl w) : n0 ≤ w.heap.size := Nat.le_of_lt (Nat.lt_of_le_of_lt h.ge h.box.lt)
theorem Yw.turn (h : Yw n0 b y vl w) {off : Nat} {v : Value} {n a : Nat} (hl : [vl, .int .u8 y.nx, .int .u8 y.al].set off v = [vl, .int .u8 n, .int .u8 a]) : Yw n0 b { y with nx := n, al := a } vl (w.setCell ⟨b, off, none⟩ v) := by
  have f := fr_set b off v w
  refine ⟨by have := h.box.set off v; rw [hl] at this; exact this, row_fr h.row f fun j hj q => ?_, h.ge⟩
  unfold On at q; subst q; exact row_ne h.row h.box (by decide) hj
theorem Yw.form (h : Yw n0 b y vl w) : ∃ g cap, vl = .slice (some ⟨g, 0, none⟩) (y.ls.length + 1) cap ∧ y.ls.length + 1 ≤ cap ∧ cap ≤ maxLen := by
  rcases h.row.2 with ⟨_, q⟩ | ⟨g, cap, cur, q, _, _, h1, h2, _⟩
  · omega
  · exact ⟨g, cap, q, h1, h2⟩
/-- The last line is written anew. -/
theorem Yw.last {g cap : Nat} {x : List UInt8} (h : Yw n0 b y (.slice (some ⟨g, 0, none⟩) (y.ls.length + 1) cap) w) : Yw n0 b { y with op := x } (.slice (some ⟨g, 0, none⟩) (y.ls.length + 1) cap) (w.setCell ⟨g, y.ls.length, none⟩ (.string ⟨x.toArray⟩)) ∧ Kz n0 w (w.setCell ⟨g, y.ls.length, none⟩ (.string ⟨x.toArray⟩)) := by
  obtain ⟨h1, h2⟩ := h.row.stored y.ls.length (.string ⟨x.toArray⟩)
  have hb : g ≠ b := fun e => row_ne h.row h.box (by decide) (by rw [e]; rfl)
  refine ⟨⟨h.box.heap (heap_setCell_other (by omega)), ?_, h.ge⟩, Kz.grown h.row (.inl rfl) h.le h2⟩
  have e : (strs (y.ls ++ [y.op])).set y.ls.length (.string ⟨x.toArray⟩) = strs (y.ls ++ [x]) := by
    simp [strs]
  rw [← e]
  exact h1
end
end Go.Proofs.Ythkodldldipimaa
/- The document's lay. -/
namespace Go.Proofs.Ythkodldldipimaa
open Go.ChangeShapes Go.WideShapes Go.ChangeAt Go.RowKit
set_option linter.unusedVariables false
set_option linter.unusedSimpArgs false
theorem byte_str (R : UInt8) (g : Nat) {W : World} (h : W.cell? ⟨g, 0, none⟩ = some (.int .u8 (R.toNat : Int))) : (convert 37 9 (.slice (some ⟨g, 0, none⟩) 1 1)).run Try.prog W = .ok (.string ⟨#[R]⟩) W := by
  refine run_convert_bytes_back W 37 9 5 ⟨g, 0, none⟩ 1 [R] Try.underlying37 Try.underlying5 Try.underlying9 fun j hj => ?_
  rw [addr_add]
  have : j = 0 := by simpa using hj
  subst this
  exact h
section
variable {n0 b : Nat} {y : Ly} {vl : Value} {w : World}
set_option maxHeartbeats 8000000 in
set_option maxRecDepth 100000 in
theorem zlay_any (h : Yw n0 b y vl w) (S : ByteArray) (hS : y.op.length + S.size ≤ 7000000) (hls : y.ls.length ≤ 1000000) :
    Calls Try.prog 19 #[.pointer (some ⟨b, 0, none⟩), .string S] w fun e w' => e = .returned (.tuple #[]) ∧ Yc n0 b (y.lay S.data.toList) w w' := by
  obtain ⟨N, hN⟩ : ∃ N, S.size = N := ⟨_, rfl⟩
  rw [hN] at hS
  have HP : Hid _ := h
  clear h
  go_enter Try.func19, Try.ntmps19
  go_wp2_with fail
  go_loopw [4, 5, 6] (fun v4 v5 v6 wr => ∃ i : Nat, i ≤ N ∧ v4 = .int .i64 i ∧ Hid (Yc n0 b (y.lay (S.data.toList.take i)) w wr)) (fun v4 _ _ _ => N - (intOf v4).toNat)
  case atStart => exact ⟨0, Nat.zero_le _, rfl, ⟨vl, HP.out, Kz.refl _ _⟩⟩
  case round =>
    obtain ⟨i, hi, rfl, HC⟩ := hrel
    clear HP
    by_cases hlt : i < N
    · have dl : decide ((i : Int) < (N : Int)) = true := decide_eq_true (by omega)
      have hil : i < S.size := by rw [hN]; exact hlt
      obtain ⟨c, hc⟩ : ∃ c, S[i]'hil = c := ⟨_, rfl⟩
      have HT : Hid (S.data.toList.take (i + 1) = S.data.toList.take i ++ [c]) := by
        show _ = _
        rw [List.take_add_one, show S.data.toList[i]? = some c by rw [← hc, List.getElem?_eq_getElem (by simpa using hil)]; rfl]
        rfl
      obtain ⟨q, hq⟩ : ∃ q, y.lay (S.data.toList.take i) = q := ⟨_, rfl⟩
      have HQ : Hid (y.lay (S.data.toList.take i) = q) := hq
      obtain ⟨g1, g2, g3⟩ := ly_len y (S.data.toList.take i)
      rw [hq] at g1 g2 g3 HC
      have hlen : q.op.length ≤ 7000000 := by rw [g1]; simp only [List.length_take]; omega
      obtain ⟨vl', h', ky⟩ := HC.out
      obtain ⟨g, cap, rfl, l1, l2⟩ := h'.form
      obtain ⟨M, hM⟩ : ∃ M, q.ls.length = M := ⟨_, rfl⟩
      have hMb : M ≤ 1000000 := by rw [← hM, g2]; exact hls
      obtain ⟨K, hK⟩ : ∃ K, M + 1 = K := ⟨_, rfl⟩
      have hKM : (K : Int) - 1 = (M : Int) := by omega
      have hMK : M < K := by omega
      obtain ⟨W1, hW1⟩ : ∃ W1, wr.setCell ⟨b, 1, none⟩ (.int .u8 0) = W1 := ⟨_, rfl⟩
      have h1 : Yw n0 b { q with nx := 0, al := q.al } (.slice (some ⟨g, 0, none⟩) (q.ls.length + 1) cap) W1 := by rw [← hW1]; exact h'.turn rfl
      have k1 : Kz n0 w W1.drew := by
        refine (ky.trans ?_).trans (Kz.kp (kp_drew W1) h1.le)
        rw [← hW1]; exact Kz.set h'.box h'.ge _
      obtain ⟨R, hR⟩ : ∃ R : UInt8, (ltOf q.how).ap c = R := ⟨_, rfl⟩
      have HW : Hid (∀ W, Calls Try.prog 24 #[.int .u8 c.toNat, .int .u8 q.how] W fun e w' => e = .returned (.int .u8 (R.toNat : Int)) ∧ w' = W) := by
        intro W; rw [← hR]; exact cased_any c q.how W
      have h1d := h1.kp (kp_drew W1)
      have h1a := h1d.kp (kp_alloc W1.drew (.cells #[.int .u8 (R.toNat : Int)] 5))
      have HF : Hid (Yc n0 b (q.put c) w (((W1.drew).alloc (.cells #[.int .u8 (R.toNat : Int)] 5)).setCell ⟨g, M, none⟩ (.string ⟨(q.op ++ [R]).toArray⟩))) := by
        have := h1a.last (x := q.op ++ [R])
        rw [← hM]
        refine ⟨.slice (some ⟨g, 0, none⟩) (q.ls.length + 1) cap, ?_, (k1.trans (Kz.kp (kp_alloc W1.drew (.cells #[.int .u8 (R.toNat : Int)] 5)) h1d.le)).trans this.2⟩
        have e : q.put c = { q with nx := 0, al := q.al, op := q.op ++ [R] } := by rw [← hR]; rfl
        rw [e]
        exact this.1
      have HFB : Hid ((((W1.drew).alloc (.cells #[.int .u8 (R.toNat : Int)] 5)).setCell ⟨g, M, none⟩ (.string ⟨(q.op ++ [R]).toArray⟩)).cell? ⟨b, 0, none⟩ = some (.slice (some ⟨g, 0, none⟩) K cap)) := by
        have hy := (h1a.last (x := q.op ++ [R])).1
        rw [← hK, ← hM]; exact hy.box.at rfl
      have hMKi : (M : Int) < (K : Int) := by omega
      have c0 : wr.cell? ⟨b, 0, none⟩ = some (.slice (some ⟨g, 0, none⟩) K cap) := by rw [← hK, ← hM]; exact h'.box.at rfl
      have c1 : wr.cell? ⟨b, 1, none⟩ = some (.int .u8 q.nx) := h'.box.at rfl
      have c2 : wr.cell? ⟨b, 2, none⟩ = some (.int .u8 q.al) := h'.box.at rfl
      have f1 : wr.frozen? ⟨b, 1, none⟩ = false := h'.box.fz _
      have c01 : W1.cell? ⟨b, 0, none⟩ = some (.slice (some ⟨g, 0, none⟩) K cap) := by rw [← hK, ← hM]; exact h1.box.at rfl
      have c02 : (W1.alloc (.cells #[.int .u8 (R.toNat : Int)] 5)).cell? ⟨b, 0, none⟩ = some (.slice (some ⟨g, 0, none⟩) K cap) := by rw [← hK, ← hM]; exact (h1.kp (kp_alloc W1 (.cells #[.int .u8 (R.toNat : Int)] 5))).box.at rfl
      have at1 : ∀ W, Yw n0 b { q with nx := 0, al := q.al } (.slice (some ⟨g, 0, none⟩) (q.ls.length + 1) cap) W → W.cell? ⟨g, M, none⟩ = some (.string ⟨q.op.toArray⟩) ∧ W.frozen? ⟨g, M, none⟩ = false := fun W hy => by
        rw [← hM]
        refine ⟨?_, hy.row.frozenAt _⟩
        rw [hy.row.cellAt _ (by omega)]
        simp [strs]
      have cL1 : W1.cell? ⟨g, M, none⟩ = some (.string ⟨q.op.toArray⟩) := (at1 _ h1).1
      have cL2 : (W1.alloc (.cells #[.int .u8 (R.toNat : Int)] 5)).cell? ⟨g, M, none⟩ = some (.string ⟨q.op.toArray⟩) := (at1 _ (h1.kp (kp_alloc W1 (.cells #[.int .u8 (R.toNat : Int)] 5)))).1
      have fL2 : (W1.alloc (.cells #[.int .u8 (R.toNat : Int)] 5)).frozen? ⟨g, M, none⟩ = false := (at1 _ (h1.kp (kp_alloc W1 (.cells #[.int .u8 (R.toNat : Int)] 5)))).2
      have cv : (convert 37 9 (.slice (some ⟨W1.heap.size, 0, none⟩) 1 1)).run Try.prog ((W1.alloc (.cells #[.int .u8 (R.toNat : Int)] 5)).drew) = .ok (.string ⟨#[R]⟩) ((W1.alloc (.cells #[.int .u8 (R.toNat : Int)] 5)).drew) := byte_str R _ ((Lc.new W1 [.int .u8 (R.toNat : Int)] 5).at rfl)
      have cv2 : (convert 37 9 (.slice (some ⟨W1.heap.size, 0, none⟩) 1 1)).run Try.prog (W1.alloc (.cells #[.int .u8 (R.toNat : Int)] 5)) = .ok (.string ⟨#[R]⟩) (W1.alloc (.cells #[.int .u8 (R.toNat : Int)] 5)) := byte_str R _ ((Lc.new W1 [.int .u8 (R.toNat : Int)] 5).at rfl)
      have ct : ∀ W, (Op.stringOp .add ⟨q.op.toArray⟩ ⟨#[R]⟩).run Try.prog W = .ok (.string ⟨(q.op ++ [R]).toArray⟩) W := fun W => catS rfl (by simp; omega) W
      obtain ⟨X, hX⟩ : ∃ X : ByteArray, (⟨q.op.toArray⟩ : ByteArray) = X := ⟨_, rfl⟩
      obtain ⟨X2, hX2⟩ : ∃ X2 : ByteArray, (⟨(q.op ++ [R]).toArray⟩ : ByteArray) = X2 := ⟨_, rfl⟩
      obtain ⟨XR, hXR⟩ : ∃ XR : ByteArray, (⟨#[R]⟩ : ByteArray) = XR := ⟨_, rfl⟩
      obtain ⟨RR, hRR⟩ : ∃ RR : Nat, R.toNat = RR := ⟨_, rfl⟩
      rw [hX] at cL1 cL2 ct
      rw [hX2] at ct HF HFB
      rw [hXR] at cv cv2 ct
      rw [hRR] at cv cv2 cL2 fL2 c02 HW HF HFB
      have hcn : (S[i]'hil).toNat = c.toNat := by rw [hc]
      obtain ⟨C, hC⟩ : ∃ C : Nat, c.toNat = C := ⟨_, rfl⟩
      rw [hC] at hcn HW
      rw [hM, hK] at l1
      unfold maxLen at l2
      obtain ⟨A, hA⟩ : ∃ A, q.al = A := ⟨_, rfl⟩
      obtain ⟨X0, hX0⟩ : ∃ X0, q.nx = X0 := ⟨_, rfl⟩
      have hhow : q.how = if X0 = 0 then A else X0 := by rw [← hA, ← hX0]; rfl
      rw [hA] at c2
      rw [hX0] at c1
      clear hC hc hq h' ky HC h1 h1d h1a k1 hR at1 hX hX2 hXR hRR hM hK hA hX0 g1 g2 g3 hlen
      by_cases h0 : X0 = 0
      · rw [if_pos h0] at hhow
        rw [hhow] at HW
        have e0 : ((X0 : Int) != 0) = false := by simp; omega
        clear hhow h0
        go_upto_region 8 with fail
        clear c0 c1 c2 f1 e0 hW1
        refine wp_region_noPanic ?_
        refine wp_region_held_drew (S := fun z => z.cell? ⟨b, 0, none⟩ = some (.slice (some ⟨g, 0, none⟩) K cap)) (by kernel_rfl) (c01) (fun hHeld => ?_)
        refine takeAt 0 (some 35) ?_ rfl rfl (by kernel_rfl) (by kernel_rfl) (by kernel_rfl) (fun _ _ _ h => h) (Or.inl ⟨by rfl, ?_⟩) hHeld ?_
        rotate_left
        · intro w hSw
          go_simp <;> with_reducible rfl
        try simp only [Act.put, List.setIfInBounds_toArray, List.set_cons_zero, List.set_cons_succ]
        refine takeAt 1 (some 36) ?_ rfl rfl (by kernel_rfl) (by kernel_rfl) (by kernel_rfl) (fun _ _ _ h => h) (Or.inl ⟨by rfl, ?_⟩) hHeld ?_
        rotate_left
        · intro w hSw
          go_simp <;> with_reducible rfl
        try simp only [Act.put, List.setIfInBounds_toArray, List.set_cons_zero, List.set_cons_succ]
        refine takeAt 2 (some 37) ?_ rfl rfl (by kernel_rfl) (by kernel_rfl) (by kernel_rfl) (fun _ _ _ h => h) (Or.inl ⟨by rfl, ?_⟩) hHeld ?_
        rotate_left
        · intro w hSw
          go_simp <;> with_reducible rfl
        try simp only [Act.put, List.setIfInBounds_toArray, List.set_cons_zero, List.set_cons_succ]
        refine takeAt 3 (some 38) ?_ rfl rfl (by kernel_rfl) (by kernel_rfl) (by kernel_rfl) (fun _ _ _ h => h) (Or.inl ⟨by rfl, ?_⟩) hHeld ?_
        rotate_left
        · intro w hSw
          go_simp <;> with_reducible rfl
        try simp only [Act.put, List.setIfInBounds_toArray, List.set_cons_zero, List.set_cons_succ]
        refine takeAt 4 (some 39) ?_ rfl rfl (by kernel_rfl) (by kernel_rfl) (by kernel_rfl) (fun _ _ _ h => h) (Or.inl ⟨by rfl, ?_⟩) hHeld ?_
        rotate_left
        · intro w hSw
          go_simp <;> with_reducible rfl
        try simp only [Act.put, List.setIfInBounds_toArray, List.set_cons_zero, List.set_cons_succ]
        refine takeAt 5 (some 40) ?_ rfl rfl (by kernel_rfl) (by kernel_rfl) (by kernel_rfl) (fun _ _ _ h => h) (Or.inl ⟨by rfl, ?_⟩) hHeld ?_
        rotate_left
        · intro w hSw
          go_simp <;> with_reducible rfl
        try simp only [Act.put, List.setIfInBounds_toArray, List.set_cons_zero, List.set_cons_succ]
        refine takeAt 6 (some 41) ?_ rfl rfl (by kernel_rfl) (by kernel_rfl) (by kernel_rfl) (fun _ _ _ h => h) (Or.inl ⟨by rfl, ?_⟩) hHeld ?_
        rotate_left
        · intro w hSw
          go_simp <;> with_reducible rfl
        try simp only [Act.put, List.setIfInBounds_toArray, List.set_cons_zero, List.set_cons_succ]
        refine takeAt 7 (some 42) ?_ rfl rfl (by kernel_rfl) (by kernel_rfl) (by kernel_rfl) (fun _ _ _ h => h) (Or.inl ⟨by rfl, ?_⟩) hHeld ?_
        rotate_left
        · intro w hSw
          go_simp <;> with_reducible rfl
        try simp only [Act.put, List.setIfInBounds_toArray, List.set_cons_zero, List.set_cons_succ]
        refine takeAt 8 (some 43) ?_ rfl rfl (by kernel_rfl) (by kernel_rfl) (by kernel_rfl) (fun _ _ _ h => h) (Or.inl ⟨by rfl, ?_⟩) hHeld ?_
        rotate_left
        · intro w hSw
          go_simp <;> with_reducible rfl
        try simp only [Act.put, List.setIfInBounds_toArray, List.set_cons_zero, List.set_cons_succ]
        refine takeAt 9 (some 44) ?_ rfl rfl (by kernel_rfl) (by kernel_rfl) (by kernel_rfl) (fun _ _ _ h => h) (Or.inl ⟨by rfl, ?_⟩) hHeld ?_
        rotate_left
        · intro w hSw
          go_simp <;> with_reducible rfl
        try simp only [Act.put, List.setIfInBounds_toArray, List.set_cons_zero, List.set_cons_succ]
        refine takeAt 10 (some 45) ?_ rfl rfl (by kernel_rfl) (by kernel_rfl) (by kernel_rfl) (fun _ _ _ h => h) (Or.inl ⟨by rfl, ?_⟩) hHeld ?_
        rotate_left
        · intro w hSw
          go_simp <;> with_reducible rfl
        try simp only [Act.put, List.setIfInBounds_toArray, List.set_cons_zero, List.set_cons_succ]
        refine takeAt 12 (some 47) ?_ rfl rfl (by kernel_rfl) (by kernel_rfl) (by kernel_rfl) (fun _ _ _ h => h) (Or.inl ⟨by rfl, ?_⟩) hHeld ?_
        rotate_left
        · intro w hSw
          go_simp <;> with_reducible rfl
        try simp only [Act.put, List.setIfInBounds_toArray, List.set_cons_zero, List.set_cons_succ]
        refine takeAt 13 (some 48) ?_ rfl rfl (by kernel_rfl) (by kernel_rfl) (by kernel_rfl) (fun _ _ _ h => h) (Or.inl ⟨by rfl, ?_⟩) hHeld ?_
        rotate_left
        · intro w hSw
          go_simp <;> with_reducible rfl
        try simp only [Act.put, List.setIfInBounds_toArray, List.set_cons_zero, List.set_cons_succ]
        refine takeAt 14 (some 49) ?_ rfl rfl (by kernel_rfl) (by kernel_rfl) (by kernel_rfl) (fun _ _ _ h => h) (Or.inl ⟨by rfl, ?_⟩) hHeld ?_
        rotate_left
        · intro w hSw
          go_simp <;> with_reducible rfl
        try simp only [Act.put, List.setIfInBounds_toArray, List.set_cons_zero, List.set_cons_succ]
        refine takeAt 15 (some 50) ?_ rfl rfl (by kernel_rfl) (by kernel_rfl) (by kernel_rfl) (fun _ _ _ h => h) (Or.inl ⟨by rfl, ?_⟩) hHeld ?_
        rotate_left
        · intro w hSw
          go_simp <;> with_reducible rfl
        try simp only [Act.put, List.setIfInBounds_toArray, List.set_cons_zero, List.set_cons_succ]
        refine wpAnyH_ready (rs := [11, 16]) (by kernel_rfl) (by simp) ?_
        refine AllReadyH.cons rfl (fun K hK => ?_) (AllReadyH.cons rfl (fun K hK => ?_) AllReadyH.nil)
        · go_simp
          refine hK.out _ _ (hHeld) (fun hHeld => ?_)
          clear hK K
          try simp only [Act.put, List.setIfInBounds_toArray, List.set_cons_zero, List.set_cons_succ]
          refine wpAnyH_ready (rs := [16]) (by kernel_rfl) (by simp) ?_
          refine AllReadyH.cons rfl (fun K hK => ?_) AllReadyH.nil
          refine step_call 24 (vals := #[.int .u8 (C : Int), .int .u8 (A : Int)]) rfl rfl (by simp [Act.eval]) Try.func24 (by kernel_rfl) (by kernel_rfl) ?_
          refine Calls.mono (HW.out _) ?_
          rintro e w9 ⟨rfl, e9⟩
          rw [e9]
          refine ⟨_, rfl, ?_⟩
          clear e9
          refine hK.out _ _ (hHeld) (fun hHeld => ?_)
          clear hK K
          try simp only [Act.put, List.setIfInBounds_toArray, List.set_cons_zero, List.set_cons_succ]
          refine wpAnyH_ready (rs := [17]) (by kernel_rfl) (by simp) ?_
          refine AllReadyH.cons rfl (fun K hK => ?_) AllReadyH.nil
          go_simp
          refine hK.out _ _ (c02) (fun hHeld => ?_)
          clear hK K
          try simp only [Act.put, List.setIfInBounds_toArray, List.set_cons_zero, List.set_cons_succ]
          refine wpAnyH_ready (rs := [18]) (by kernel_rfl) (by simp) ?_
          refine AllReadyH.cons rfl (fun K hK => ?_) AllReadyH.nil
          go_simp
          refine hK.out _ _ (hHeld) (fun hHeld => ?_)
          clear hK K
          try simp only [Act.put, List.setIfInBounds_toArray, List.set_cons_zero, List.set_cons_succ]
          refine wpAnyH_ready (rs := [19]) (by kernel_rfl) (by simp) ?_
          refine AllReadyH.cons rfl (fun K hK => ?_) AllReadyH.nil
          go_simp
          refine hK.out _ _ (hHeld) (fun hHeld => ?_)
          clear hK K
          try simp only [Act.put, List.setIfInBounds_toArray, List.set_cons_zero, List.set_cons_succ]
          refine takeAt 20 (some 55) ?_ rfl rfl (by kernel_rfl) (by kernel_rfl) (by kernel_rfl) (fun _ _ _ h => h) (Or.inl ⟨by rfl, ?_⟩) hHeld ?_
          rotate_left
          · intro w hSw
            go_simp <;> with_reducible rfl
          try simp only [Act.put, List.setIfInBounds_toArray, List.set_cons_zero, List.set_cons_succ]
          refine wpAnyH_ready (rs := [21]) (by kernel_rfl) (by simp) ?_
          refine AllReadyH.cons rfl (fun K hK => ?_) AllReadyH.nil
          go_simp
          refine hK.out _ _ (HFB.out) (fun hHeld => ?_)
          clear hK K
          try simp only [Act.put, List.setIfInBounds_toArray, List.set_cons_zero, List.set_cons_succ]
          refine wpAnyH_done (by kernel_rfl) ?_ _
          refine NoPanic.normal ?_
          go_wp2_with fail
          go_roundw
          case rel => exact ⟨i + 1, by omega, by go_num, by rw [HT.out, ly_snoc, HQ.out]; exact HF.out⟩
          case measure => simp only [intOf]; omega
        · refine step_call 24 (vals := #[.int .u8 (C : Int), .int .u8 (A : Int)]) rfl rfl (by simp [Act.eval]) Try.func24 (by kernel_rfl) (by kernel_rfl) ?_
          refine Calls.mono (HW.out _) ?_
          rintro e w9 ⟨rfl, e9⟩
          rw [e9]
          refine ⟨_, rfl, ?_⟩
          clear e9
          refine hK.out _ _ (hHeld) (fun hHeld => ?_)
          clear hK K
          try simp only [Act.put, List.setIfInBounds_toArray, List.set_cons_zero, List.set_cons_succ]
          refine wpAnyH_ready (rs := [11, 17]) (by kernel_rfl) (by simp) ?_
          refine AllReadyH.cons rfl (fun K hK => ?_) (AllReadyH.cons rfl (fun K hK => ?_) AllReadyH.nil)
          · go_simp
            refine hK.out _ _ (hHeld) (fun hHeld => ?_)
            clear hK K
            try simp only [Act.put, List.setIfInBounds_toArray, List.set_cons_zero, List.set_cons_succ]
            refine wpAnyH_ready (rs := [17]) (by kernel_rfl) (by simp) ?_
            refine AllReadyH.cons rfl (fun K hK => ?_) AllReadyH.nil
            go_simp
            refine hK.out _ _ (c02) (fun hHeld => ?_)
            clear hK K
            try simp only [Act.put, List.setIfInBounds_toArray, List.set_cons_zero, List.set_cons_succ]
            refine wpAnyH_ready (rs := [18]) (by kernel_rfl) (by simp) ?_
            refine AllReadyH.cons rfl (fun K hK => ?_) AllReadyH.nil
            go_simp
            refine hK.out _ _ (hHeld) (fun hHeld => ?_)
            clear hK K
            try simp only [Act.put, List.setIfInBounds_toArray, List.set_cons_zero, List.set_cons_succ]
            refine wpAnyH_ready (rs := [19]) (by kernel_rfl) (by simp) ?_
            refine AllReadyH.cons rfl (fun K hK => ?_) AllReadyH.nil
            go_simp
            refine hK.out _ _ (hHeld) (fun hHeld => ?_)
            clear hK K
            try simp only [Act.put, List.setIfInBounds_toArray, List.set_cons_zero, List.set_cons_succ]
            refine takeAt 20 (some 55) ?_ rfl rfl (by kernel_rfl) (by kernel_rfl) (by kernel_rfl) (fun _ _ _ h => h) (Or.inl ⟨by rfl, ?_⟩) hHeld ?_
            rotate_left
            · intro w hSw
              go_simp <;> with_reducible rfl
            try simp only [Act.put, List.setIfInBounds_toArray, List.set_cons_zero, List.set_cons_succ]
            refine wpAnyH_ready (rs := [21]) (by kernel_rfl) (by simp) ?_
            refine AllReadyH.cons rfl (fun K hK => ?_) AllReadyH.nil
            go_simp
            refine hK.out _ _ (HFB.out) (fun hHeld => ?_)
            clear hK K
            try simp only [Act.put, List.setIfInBounds_toArray, List.set_cons_zero, List.set_cons_succ]
            refine wpAnyH_done (by kernel_rfl) ?_ _
            refine NoPanic.normal ?_
            go_wp2_with fail
            go_roundw
            case rel => exact ⟨i + 1, by omega, by go_num, by rw [HT.out, ly_snoc, HQ.out]; exact HF.out⟩
            case measure => simp only [intOf]; omega
          · go_simp
            refine hK.out _ _ (c02) (fun hHeld => ?_)
            clear hK K
            try simp only [Act.put, List.setIfInBounds_toArray, List.set_cons_zero, List.set_cons_succ]
            refine wpAnyH_ready (rs := [11, 18]) (by kernel_rfl) (by simp) ?_
            refine AllReadyH.cons rfl (fun K hK => ?_) (AllReadyH.cons rfl (fun K hK => ?_) AllReadyH.nil)
            · go_simp
              refine hK.out _ _ (hHeld) (fun hHeld => ?_)
              clear hK K
              try simp only [Act.put, List.setIfInBounds_toArray, List.set_cons_zero, List.set_cons_succ]
              refine wpAnyH_ready (rs := [18]) (by kernel_rfl) (by simp) ?_
              refine AllReadyH.cons rfl (fun K hK => ?_) AllReadyH.nil
              go_simp
              refine hK.out _ _ (hHeld) (fun hHeld => ?_)
              clear hK K
              try simp only [Act.put, List.setIfInBounds_toArray, List.set_cons_zero, List.set_cons_succ]
              refine wpAnyH_ready (rs := [19]) (by kernel_rfl) (by simp) ?_
              refine AllReadyH.cons rfl (fun K hK => ?_) AllReadyH.nil
              go_simp
              refine hK.out _ _ (hHeld) (fun hHeld => ?_)
              clear hK K
              try simp only [Act.put, List.setIfInBounds_toArray, List.set_cons_zero, List.set_cons_succ]
              refine takeAt 20 (some 55) ?_ rfl rfl (by kernel_rfl) (by kernel_rfl) (by kernel_rfl) (fun _ _ _ h => h) (Or.inl ⟨by rfl, ?_⟩) hHeld ?_
              rotate_left
              · intro w hSw
                go_simp <;> with_reducible rfl
              try simp only [Act.put, List.setIfInBounds_toArray, List.set_cons_zero, List.set_cons_succ]
              refine wpAnyH_ready (rs := [21]) (by kernel_rfl) (by simp) ?_
              refine AllReadyH.cons rfl (fun K hK => ?_) AllReadyH.nil
              go_simp
              refine hK.out _ _ (HFB.out) (fun hHeld => ?_)
              clear hK K
              try simp only [Act.put, List.setIfInBounds_toArray, List.set_cons_zero, List.set_cons_succ]
              refine wpAnyH_done (by kernel_rfl) ?_ _
              refine NoPanic.normal ?_
              go_wp2_with fail
              go_roundw
              case rel => exact ⟨i + 1, by omega, by go_num, by rw [HT.out, ly_snoc, HQ.out]; exact HF.out⟩
              case measure => simp only [intOf]; omega
            · go_simp
              refine hK.out _ _ (hHeld) (fun hHeld => ?_)
              clear hK K
              try simp only [Act.put, List.setIfInBounds_toArray, List.set_cons_zero, List.set_cons_succ]
              refine wpAnyH_ready (rs := [11]) (by kernel_rfl) (by simp) ?_
              refine AllReadyH.cons rfl (fun K hK => ?_) AllReadyH.nil
              go_simp
              refine hK.out _ _ (hHeld) (fun hHeld => ?_)
              clear hK K
              try simp only [Act.put, List.setIfInBounds_toArray, List.set_cons_zero, List.set_cons_succ]
              refine wpAnyH_ready (rs := [19]) (by kernel_rfl) (by simp) ?_
              refine AllReadyH.cons rfl (fun K hK => ?_) AllReadyH.nil
              go_simp
              refine hK.out _ _ (hHeld) (fun hHeld => ?_)
              clear hK K
              try simp only [Act.put, List.setIfInBounds_toArray, List.set_cons_zero, List.set_cons_succ]
              refine takeAt 20 (some 55) ?_ rfl rfl (by kernel_rfl) (by kernel_rfl) (by kernel_rfl) (fun _ _ _ h => h) (Or.inl ⟨by rfl, ?_⟩) hHeld ?_
              rotate_left
              · intro w hSw
                go_simp <;> with_reducible rfl
              try simp only [Act.put, List.setIfInBounds_toArray, List.set_cons_zero, List.set_cons_succ]
              refine wpAnyH_ready (rs := [21]) (by kernel_rfl) (by simp) ?_
              refine AllReadyH.cons rfl (fun K hK => ?_) AllReadyH.nil
              go_simp
              refine hK.out _ _ (HFB.out) (fun hHeld => ?_)
              clear hK K
              try simp only [Act.put, List.setIfInBounds_toArray, List.set_cons_zero, List.set_cons_succ]
              refine wpAnyH_done (by kernel_rfl) ?_ _
              refine NoPanic.normal ?_
              go_wp2_with fail
              go_roundw
              case rel => exact ⟨i + 1, by omega, by go_num, by rw [HT.out, ly_snoc, HQ.out]; exact HF.out⟩
              case measure => simp only [intOf]; omega
      · rw [if_neg h0] at hhow
        rw [hhow] at HW
        have e0 : ((X0 : Int) != 0) = true := by simp; omega
        clear hhow h0
        go_upto_region 8 with fail
        clear c0 c1 c2 f1 e0 hW1
        refine wp_region_noPanic ?_
        refine wp_region_held_drew (S := fun z => z.cell? ⟨b, 0, none⟩ = some (.slice (some ⟨g, 0, none⟩) K cap)) (by kernel_rfl) (c01) (fun hHeld => ?_)
        refine takeAt 0 (some 35) ?_ rfl rfl (by kernel_rfl) (by kernel_rfl) (by kernel_rfl) (fun _ _ _ h => h) (Or.inl ⟨by rfl, ?_⟩) hHeld ?_
        rotate_left
        · intro w hSw
          go_simp <;> with_reducible rfl
        try simp only [Act.put, List.setIfInBounds_toArray, List.set_cons_zero, List.set_cons_succ]
        refine takeAt 1 (some 36) ?_ rfl rfl (by kernel_rfl) (by kernel_rfl) (by kernel_rfl) (fun _ _ _ h => h) (Or.inl ⟨by rfl, ?_⟩) hHeld ?_
        rotate_left
        · intro w hSw
          go_simp <;> with_reducible rfl
        try simp only [Act.put, List.setIfInBounds_toArray, List.set_cons_zero, List.set_cons_succ]
        refine takeAt 2 (some 37) ?_ rfl rfl (by kernel_rfl) (by kernel_rfl) (by kernel_rfl) (fun _ _ _ h => h) (Or.inl ⟨by rfl, ?_⟩) hHeld ?_
        rotate_left
        · intro w hSw
          go_simp <;> with_reducible rfl
        try simp only [Act.put, List.setIfInBounds_toArray, List.set_cons_zero, List.set_cons_succ]
        refine takeAt 3 (some 38) ?_ rfl rfl (by kernel_rfl) (by kernel_rfl) (by kernel_rfl) (fun _ _ _ h => h) (Or.inl ⟨by rfl, ?_⟩) hHeld ?_
        rotate_left
        · intro w hSw
          go_simp <;> with_reducible rfl
        try simp only [Act.put, List.setIfInBounds_toArray, List.set_cons_zero, List.set_cons_succ]
        refine takeAt 4 (some 39) ?_ rfl rfl (by kernel_rfl) (by kernel_rfl) (by kernel_rfl) (fun _ _ _ h => h) (Or.inl ⟨by rfl, ?_⟩) hHeld ?_
        rotate_left
        · intro w hSw
          go_simp <;> with_reducible rfl
        try simp only [Act.put, List.setIfInBounds_toArray, List.set_cons_zero, List.set_cons_succ]
        refine takeAt 5 (some 40) ?_ rfl rfl (by kernel_rfl) (by kernel_rfl) (by kernel_rfl) (fun _ _ _ h => h) (Or.inl ⟨by rfl, ?_⟩) hHeld ?_
        rotate_left
        · intro w hSw
          go_simp <;> with_reducible rfl
        try simp only [Act.put, List.setIfInBounds_toArray, List.set_cons_zero, List.set_cons_succ]
        refine takeAt 6 (some 41) ?_ rfl rfl (by kernel_rfl) (by kernel_rfl) (by kernel_rfl) (fun _ _ _ h => h) (Or.inl ⟨by rfl, ?_⟩) hHeld ?_
        rotate_left
        · intro w hSw
          go_simp <;> with_reducible rfl
        try simp only [Act.put, List.setIfInBounds_toArray, List.set_cons_zero, List.set_cons_succ]
        refine takeAt 7 (some 42) ?_ rfl rfl (by kernel_rfl) (by kernel_rfl) (by kernel_rfl) (fun _ _ _ h => h) (Or.inl ⟨by rfl, ?_⟩) hHeld ?_
        rotate_left
        · intro w hSw
          go_simp <;> with_reducible rfl
        try simp only [Act.put, List.setIfInBounds_toArray, List.set_cons_zero, List.set_cons_succ]
        refine takeAt 8 (some 43) ?_ rfl rfl (by kernel_rfl) (by kernel_rfl) (by kernel_rfl) (fun _ _ _ h => h) (Or.inl ⟨by rfl, ?_⟩) hHeld ?_
        rotate_left
        · intro w hSw
          go_simp <;> with_reducible rfl
        try simp only [Act.put, List.setIfInBounds_toArray, List.set_cons_zero, List.set_cons_succ]
        refine takeAt 9 (some 44) ?_ rfl rfl (by kernel_rfl) (by kernel_rfl) (by kernel_rfl) (fun _ _ _ h => h) (Or.inl ⟨by rfl, ?_⟩) hHeld ?_
        rotate_left
        · intro w hSw
          go_simp <;> with_reducible rfl
        try simp only [Act.put, List.setIfInBounds_toArray, List.set_cons_zero, List.set_cons_succ]
        refine takeAt 10 (some 45) ?_ rfl rfl (by kernel_rfl) (by kernel_rfl) (by kernel_rfl) (fun _ _ _ h => h) (Or.inl ⟨by rfl, ?_⟩) hHeld ?_
        rotate_left
        · intro w hSw
          go_simp <;> with_reducible rfl
        try simp only [Act.put, List.setIfInBounds_toArray, List.set_cons_zero, List.set_cons_succ]
        refine takeAt 12 (some 47) ?_ rfl rfl (by kernel_rfl) (by kernel_rfl) (by kernel_rfl) (fun _ _ _ h => h) (Or.inl ⟨by rfl, ?_⟩) hHeld ?_
        rotate_left
        · intro w hSw
          go_simp <;> with_reducible rfl
        try simp only [Act.put, List.setIfInBounds_toArray, List.set_cons_zero, List.set_cons_succ]
        refine takeAt 13 (some 48) ?_ rfl rfl (by kernel_rfl) (by kernel_rfl) (by kernel_rfl) (fun _ _ _ h => h) (Or.inl ⟨by rfl, ?_⟩) hHeld ?_
        rotate_left
        · intro w hSw
          go_simp <;> with_reducible rfl
        try simp only [Act.put, List.setIfInBounds_toArray, List.set_cons_zero, List.set_cons_succ]
        refine takeAt 14 (some 49) ?_ rfl rfl (by kernel_rfl) (by kernel_rfl) (by kernel_rfl) (fun _ _ _ h => h) (Or.inl ⟨by rfl, ?_⟩) hHeld ?_
        rotate_left
        · intro w hSw
          go_simp <;> with_reducible rfl
        try simp only [Act.put, List.setIfInBounds_toArray, List.set_cons_zero, List.set_cons_succ]
        refine takeAt 15 (some 50) ?_ rfl rfl (by kernel_rfl) (by kernel_rfl) (by kernel_rfl) (fun _ _ _ h => h) (Or.inl ⟨by rfl, ?_⟩) hHeld ?_
        rotate_left
        · intro w hSw
          go_simp <;> with_reducible rfl
        try simp only [Act.put, List.setIfInBounds_toArray, List.set_cons_zero, List.set_cons_succ]
        refine wpAnyH_ready (rs := [11, 16]) (by kernel_rfl) (by simp) ?_
        refine AllReadyH.cons rfl (fun K hK => ?_) (AllReadyH.cons rfl (fun K hK => ?_) AllReadyH.nil)
        · go_simp
          refine hK.out _ _ (hHeld) (fun hHeld => ?_)
          clear hK K
          try simp only [Act.put, List.setIfInBounds_toArray, List.set_cons_zero, List.set_cons_succ]
          refine wpAnyH_ready (rs := [16]) (by kernel_rfl) (by simp) ?_
          refine AllReadyH.cons rfl (fun K hK => ?_) AllReadyH.nil
          refine step_call 24 (vals := #[.int .u8 (C : Int), .int .u8 (X0 : Int)]) rfl rfl (by simp [Act.eval]) Try.func24 (by kernel_rfl) (by kernel_rfl) ?_
          refine Calls.mono (HW.out _) ?_
          rintro e w9 ⟨rfl, e9⟩
          rw [e9]
          refine ⟨_, rfl, ?_⟩
          clear e9
          refine hK.out _ _ (hHeld) (fun hHeld => ?_)
          clear hK K
          try simp only [Act.put, List.setIfInBounds_toArray, List.set_cons_zero, List.set_cons_succ]
          refine wpAnyH_ready (rs := [17]) (by kernel_rfl) (by simp) ?_
          refine AllReadyH.cons rfl (fun K hK => ?_) AllReadyH.nil
          go_simp
          refine hK.out _ _ (c02) (fun hHeld => ?_)
          clear hK K
          try simp only [Act.put, List.setIfInBounds_toArray, List.set_cons_zero, List.set_cons_succ]
          refine wpAnyH_ready (rs := [18]) (by kernel_rfl) (by simp) ?_
          refine AllReadyH.cons rfl (fun K hK => ?_) AllReadyH.nil
          go_simp
          refine hK.out _ _ (hHeld) (fun hHeld => ?_)
          clear hK K
          try simp only [Act.put, List.setIfInBounds_toArray, List.set_cons_zero, List.set_cons_succ]
          refine wpAnyH_ready (rs := [19]) (by kernel_rfl) (by simp) ?_
          refine AllReadyH.cons rfl (fun K hK => ?_) AllReadyH.nil
          go_simp
          refine hK.out _ _ (hHeld) (fun hHeld => ?_)
          clear hK K
          try simp only [Act.put, List.setIfInBounds_toArray, List.set_cons_zero, List.set_cons_succ]
          refine takeAt 20 (some 55) ?_ rfl rfl (by kernel_rfl) (by kernel_rfl) (by kernel_rfl) (fun _ _ _ h => h) (Or.inl ⟨by rfl, ?_⟩) hHeld ?_
          rotate_left
          · intro w hSw
            go_simp <;> with_reducible rfl
          try simp only [Act.put, List.setIfInBounds_toArray, List.set_cons_zero, List.set_cons_succ]
          refine wpAnyH_ready (rs := [21]) (by kernel_rfl) (by simp) ?_
          refine AllReadyH.cons rfl (fun K hK => ?_) AllReadyH.nil
          go_simp
          refine hK.out _ _ (HFB.out) (fun hHeld => ?_)
          clear hK K
          try simp only [Act.put, List.setIfInBounds_toArray, List.set_cons_zero, List.set_cons_succ]
          refine wpAnyH_done (by kernel_rfl) ?_ _
          refine NoPanic.normal ?_
          go_wp2_with fail
          go_roundw
          case rel => exact ⟨i + 1, by omega, by go_num, by rw [HT.out, ly_snoc, HQ.out]; exact HF.out⟩
          case measure => simp only [intOf]; omega
        · refine step_call 24 (vals := #[.int .u8 (C : Int), .int .u8 (X0 : Int)]) rfl rfl (by simp [Act.eval]) Try.func24 (by kernel_rfl) (by kernel_rfl) ?_
          refine Calls.mono (HW.out _) ?_
          rintro e w9 ⟨rfl, e9⟩
          rw [e9]
          refine ⟨_, rfl, ?_⟩
          clear e9
          refine hK.out _ _ (hHeld) (fun hHeld => ?_)
          clear hK K
          try simp only [Act.put, List.setIfInBounds_toArray, List.set_cons_zero, List.set_cons_succ]
          refine wpAnyH_ready (rs := [11, 17]) (by kernel_rfl) (by simp) ?_
          refine AllReadyH.cons rfl (fun K hK => ?_) (AllReadyH.cons rfl (fun K hK => ?_) AllReadyH.nil)
          · go_simp
            refine hK.out _ _ (hHeld) (fun hHeld => ?_)
            clear hK K
            try simp only [Act.put, List.setIfInBounds_toArray, List.set_cons_zero, List.set_cons_succ]
            refine wpAnyH_ready (rs := [17]) (by kernel_rfl) (by simp) ?_
            refine AllReadyH.cons rfl (fun K hK => ?_) AllReadyH.nil
            go_simp
            refine hK.out _ _ (c02) (fun hHeld => ?_)
            clear hK K
            try simp only [Act.put, List.setIfInBounds_toArray, List.set_cons_zero, List.set_cons_succ]
            refine wpAnyH_ready (rs := [18]) (by kernel_rfl) (by simp) ?_
            refine AllReadyH.cons rfl (fun K hK => ?_) AllReadyH.nil
            go_simp
            refine hK.out _ _ (hHeld) (fun hHeld => ?_)
            clear hK K
            try simp only [Act.put, List.setIfInBounds_toArray, List.set_cons_zero, List.set_cons_succ]
            refine wpAnyH_ready (rs := [19]) (by kernel_rfl) (by simp) ?_
            refine AllReadyH.cons rfl (fun K hK => ?_) AllReadyH.nil
            go_simp
            refine hK.out _ _ (hHeld) (fun hHeld => ?_)
            clear hK K
            try simp only [Act.put, List.setIfInBounds_toArray, List.set_cons_zero, List.set_cons_succ]
            refine takeAt 20 (some 55) ?_ rfl rfl (by kernel_rfl) (by kernel_rfl) (by kernel_rfl) (fun _ _ _ h => h) (Or.inl ⟨by rfl, ?_⟩) hHeld ?_
            rotate_left
            · intro w hSw
              go_simp <;> with_reducible rfl
            try simp only [Act.put, List.setIfInBounds_toArray, List.set_cons_zero, List.set_cons_succ]
            refine wpAnyH_ready (rs := [21]) (by kernel_rfl) (by simp) ?_
            refine AllReadyH.cons rfl (fun K hK => ?_) AllReadyH.nil
            go_simp
            refine hK.out _ _ (HFB.out) (fun hHeld => ?_)
            clear hK K
            try simp only [Act.put, List.setIfInBounds_toArray, List.set_cons_zero, List.set_cons_succ]
            refine wpAnyH_done (by kernel_rfl) ?_ _
            refine NoPanic.normal ?_
            go_wp2_with fail
            go_roundw
            case rel => exact ⟨i + 1, by omega, by go_num, by rw [HT.out, ly_snoc, HQ.out]; exact HF.out⟩
            case measure => simp only [intOf]; omega
          · go_simp
            refine hK.out _ _ (c02) (fun hHeld => ?_)
            clear hK K
            try simp only [Act.put, List.setIfInBounds_toArray, List.set_cons_zero, List.set_cons_succ]
            refine wpAnyH_ready (rs := [11, 18]) (by kernel_rfl) (by simp) ?_
            refine AllReadyH.cons rfl (fun K hK => ?_) (AllReadyH.cons rfl (fun K hK => ?_) AllReadyH.nil)
            · go_simp
              refine hK.out _ _ (hHeld) (fun hHeld => ?_)
              clear hK K
              try simp only [Act.put, List.setIfInBounds_toArray, List.set_cons_zero, List.set_cons_succ]
              refine wpAnyH_ready (rs := [18]) (by kernel_rfl) (by simp) ?_
              refine AllReadyH.cons rfl (fun K hK => ?_) AllReadyH.nil
              go_simp
              refine hK.out _ _ (hHeld) (fun hHeld => ?_)
              clear hK K
              try simp only [Act.put, List.setIfInBounds_toArray, List.set_cons_zero, List.set_cons_succ]
              refine wpAnyH_ready (rs := [19]) (by kernel_rfl) (by simp) ?_
              refine AllReadyH.cons rfl (fun K hK => ?_) AllReadyH.nil
              go_simp
              refine hK.out _ _ (hHeld) (fun hHeld => ?_)
              clear hK K
              try simp only [Act.put, List.setIfInBounds_toArray, List.set_cons_zero, List.set_cons_succ]
              refine takeAt 20 (some 55) ?_ rfl rfl (by kernel_rfl) (by kernel_rfl) (by kernel_rfl) (fun _ _ _ h => h) (Or.inl ⟨by rfl, ?_⟩) hHeld ?_
              rotate_left
              · intro w hSw
                go_simp <;> with_reducible rfl
              try simp only [Act.put, List.setIfInBounds_toArray, List.set_cons_zero, List.set_cons_succ]
              refine wpAnyH_ready (rs := [21]) (by kernel_rfl) (by simp) ?_
              refine AllReadyH.cons rfl (fun K hK => ?_) AllReadyH.nil
              go_simp
              refine hK.out _ _ (HFB.out) (fun hHeld => ?_)
              clear hK K
              try simp only [Act.put, List.setIfInBounds_toArray, List.set_cons_zero, List.set_cons_succ]
              refine wpAnyH_done (by kernel_rfl) ?_ _
              refine NoPanic.normal ?_
              go_wp2_with fail
              go_roundw
              case rel => exact ⟨i + 1, by omega, by go_num, by rw [HT.out, ly_snoc, HQ.out]; exact HF.out⟩
              case measure => simp only [intOf]; omega
            · go_simp
              refine hK.out _ _ (hHeld) (fun hHeld => ?_)
              clear hK K
              try simp only [Act.put, List.setIfInBounds_toArray, List.set_cons_zero, List.set_cons_succ]
              refine wpAnyH_ready (rs := [11]) (by kernel_rfl) (by simp) ?_
              refine AllReadyH.cons rfl (fun K hK => ?_) AllReadyH.nil
              go_simp
              refine hK.out _ _ (hHeld) (fun hHeld => ?_)
              clear hK K
              try simp only [Act.put, List.setIfInBounds_toArray, List.set_cons_zero, List.set_cons_succ]
              refine wpAnyH_ready (rs := [19]) (by kernel_rfl) (by simp) ?_
              refine AllReadyH.cons rfl (fun K hK => ?_) AllReadyH.nil
              go_simp
              refine hK.out _ _ (hHeld) (fun hHeld => ?_)
              clear hK K
              try simp only [Act.put, List.setIfInBounds_toArray, List.set_cons_zero, List.set_cons_succ]
              refine takeAt 20 (some 55) ?_ rfl rfl (by kernel_rfl) (by kernel_rfl) (by kernel_rfl) (fun _ _ _ h => h) (Or.inl ⟨by rfl, ?_⟩) hHeld ?_
              rotate_left
              · intro w hSw
                go_simp <;> with_reducible rfl
              try simp only [Act.put, List.setIfInBounds_toArray, List.set_cons_zero, List.set_cons_succ]
              refine wpAnyH_ready (rs := [21]) (by kernel_rfl) (by simp) ?_
              refine AllReadyH.cons rfl (fun K hK => ?_) AllReadyH.nil
              go_simp
              refine hK.out _ _ (HFB.out) (fun hHeld => ?_)
              clear hK K
              try simp only [Act.put, List.setIfInBounds_toArray, List.set_cons_zero, List.set_cons_succ]
              refine wpAnyH_done (by kernel_rfl) ?_ _
              refine NoPanic.normal ?_
              go_wp2_with fail
              go_roundw
              case rel => exact ⟨i + 1, by omega, by go_num, by rw [HT.out, ly_snoc, HQ.out]; exact HF.out⟩
              case measure => simp only [intOf]; omega
    · obtain rfl : i = N := by omega
      have dl : decide ((i : Int) < (i : Int)) = false := by simp
      rw [List.take_of_length_le (by rw [← hN]; simp)] at HC
      go_wp2_with fail
      go_end0
      exact ⟨rfl, HC.out⟩
end
end Go.Proofs.Ythkodldldipimaa
/- The document's Lines. -/
namespace Go.Proofs.Ythkodldldipimaa
open Go.ChangeShapes Go.WideShapes Go.ChangeAt Go.RowKit
set_option linter.unusedVariables false
set_option linter.unusedSimpArgs false
def Ly.say (y : Ly) (c : Nat) : Ly := if c = 117 ∨ c = 108 then { y with nx := c } else { y with nx := 0, al := if c = 85 ∨ c = 76 then c else 0 }
def Ly.fin (y : Ly) : Ly := { y with ls := y.ls ++ [y.op], op := [] }
def stepY (line : List UInt8) (m : Mt) (y : Ly) (t : Tm) : Ly :=
  if t.kd = 1 then y.lay t.tx else if t.kd = 2 then y.lay (grpF line m t.n) else if t.kd = 3 then y.fin else if t.kd = 4 then y.say t.c else y
def ly0 : Ly := ⟨[], [], 0, 0⟩
def yF (line : List UInt8) (m : Mt) (l : List Tm) : Ly := l.foldl (stepY line m) ly0
theorem yF_snoc (line : List UInt8) (m : Mt) (l : List Tm) (t : Tm) : yF line m (l ++ [t]) = stepY line m (yF line m l) t := by simp [yF]
structure RelY (p : Pg) (y : Ly) : Prop where
  ls : p.ls = y.ls
  op : p.op = y.op
  nx : p.nx = ltOf y.how
  al : p.al = ltOf y.al
theorem relY_lay {p : Pg} {y : Ly} (h : RelY p y) (s : List UInt8) : RelY (p.lay s) (y.lay s) := by
  induction s generalizing p y with
  | nil => exact h
  | cons c s ih =>
    refine ih (p := p.put c) (y := y.put c) ⟨h.ls, ?_, ?_, h.al⟩
    · show p.op ++ [p.nx.ap c] = y.op ++ [(ltOf y.how).ap c]
      rw [h.op, h.nx]
    · show p.al = ltOf (Ly.how _)
      rw [h.al]; rfl
theorem relY_say {p : Pg} {y : Ly} (h : RelY p y) (c : Nat) : RelY (p.say c) (y.say c) := by
  obtain ⟨h1, h2, h3, h4⟩ := h
  unfold Pg.say Ly.say
  by_cases e1 : c = 117
  · subst e1; exact ⟨h1, h2, rfl, h4⟩
  by_cases e2 : c = 108
  · subst e2; exact ⟨h1, h2, rfl, h4⟩
  rw [if_neg e1, if_neg e2, if_neg (show ¬ (c = 117 ∨ c = 108) by omega)]
  by_cases e3 : c = 85
  · subst e3; exact ⟨h1, h2, rfl, rfl⟩
  by_cases e4 : c = 76
  · subst e4; exact ⟨h1, h2, rfl, rfl⟩
  rw [if_neg e3, if_neg e4, if_neg (show ¬ (c = 85 ∨ c = 76) by omega)]
  exact ⟨h1, h2, rfl, rfl⟩
theorem relY_step {p : Pg} {y : Ly} (h : RelY p y) (line : List UInt8) (m : Mt) (t : Tm) : RelY (stepX line m p t) (stepY line m y t) := by
  unfold stepX stepY
  split
  · exact relY_lay h _
  split
  · exact relY_lay h _
  split
  · exact ⟨by simp [Pg.fin, Ly.fin, h.ls, h.op], rfl, h.nx, h.al⟩
  split
  · exact relY_say h _
  · exact h
theorem relY_fold (line : List UInt8) (m : Mt) (l : List Tm) : RelY (pageF line m l) (yF line m l) := by
  have : ∀ (p : Pg) (y : Ly), RelY p y → RelY (l.foldl (stepX line m) p) (l.foldl (stepY line m) y) := by
    induction l with
    | nil => intro p y h; exact h
    | cons t l ih => intro p y h; exact ih _ _ (relY_step h line m t)
  exact this _ _ ⟨rfl, rfl, rfl, rfl⟩
theorem y_lines (line : List UInt8) (m : Mt) (l : List Tm) : (yF line m l).ls ++ [(yF line m l).op] = linesF l line m := by
  have h := relY_fold line m l
  rw [← h.ls, ← h.op]
  rfl
/-- What is known while the pieces are laid. -/
structure Lz (w0 : World) (bm b : Nat) (m : Mt) (y : Ly) (w : World) : Prop where
  yw : ∃ vl, Yw w0.heap.size b y vl w
  kp : Kp w0 w
  mt : Lc 25 bm m.cells w
theorem Lz.kz {w0 : World} {bm b : Nat} {m : Mt} {y z : Ly} {w w1 : World} (h : Lz w0 bm b m y w) (k : Yc w0.heap.size b z w w1) : Lz w0 bm b m z w1 := by
  obtain ⟨vl, h1, ky⟩ := k
  exact ⟨⟨vl, h1⟩, h.kp.trans ky.bel, ky.oth _ _ _ _ h.mt (by decide) (by decide) (by decide)⟩
theorem Lz.kpp {w0 : World} {bm b : Nat} {m : Mt} {y : Ly} {w w1 : World} (h : Lz w0 bm b m y w) (k : Kp w w1) : Lz w0 bm b m y w1 := by
  obtain ⟨vl, h1⟩ := h.yw
  exact ⟨⟨vl, h1.kp k⟩, kp_trans h.kp k, h.mt.kp k⟩
section
variable {n0 b : Nat} {y : Ly} {vl : Value} {w w1 w2 : World}
/-- Behind a line that has ended. -/
theorem Yw.line (h : Yw n0 b y vl w) {v' : Value} (hw1 : w1 = w.alloc (.cells #[.string ⟨#[]⟩] 9))
    (ho : w2.ownsRow n0 9 1 v' (y.ls.length + 1 + 1) (strs (y.ls ++ [y.op]) ++ [.string ⟨#[]⟩])) (hg : w1.grownBy w2 vl.ownBlock) :
    (w2.cell? ⟨b, 0, none⟩ = some vl ∧ w2.frozen? ⟨b, 0, none⟩ = false) ∧ Hid (Yc n0 b y.fin w (w2.setCell ⟨b, 0, none⟩ v')) := by
  have h2 : Yw n0 b y vl w1 := by rw [hw1]; exact h.kp (kp_alloc _ _)
  have ky1 : Kz n0 w w1 := by rw [hw1]; exact Kz.kp (kp_alloc _ _) h.le
  have hb : Lc 50 b [vl, .int .u8 y.nx, .int .u8 y.al] w2 := h2.box.heap (hg.block b h2.box.lt fun e => row_ne h2.row h2.box (by decide) e.symm)
  have ky2 : Kz n0 w w2 := ky1.trans (Kz.grown h2.row (.inl rfl) h2.le hg)
  refine ⟨⟨hb.at rfl, hb.fz _⟩, v', ⟨hb.set 0 v', ?_, h.ge⟩, ky2.trans (Kz.set hb h.ge _)⟩
  have e : y.fin.ls.length + 1 = y.ls.length + 1 + 1 := by simp [Ly.fin]
  have e2 : strs (y.fin.ls ++ [y.fin.op]) = strs (y.ls ++ [y.op]) ++ [.string ⟨#[]⟩] := by simp [Ly.fin, strs]
  rw [e, e2]
  exact row_fr ho (fr_set b 0 v' w2) fun j hj q => by unfold On at q; subst q; exact row_ne ho hb (by decide) hj
end
theorem y_small {line : List UInt8} {l : List Tm} (h : Mod l line) (m : Mt) (i : Nat) (hi : i ≤ l.length) : (yF line m (l.take i)).op.length ≤ 1000 * i ∧ (yF line m (l.take i)).ls.length ≤ i := by
  have r := relY_fold line m (l.take i)
  have := page_len h m i hi
  rw [r.ls, r.op] at this
  exact this
set_option maxHeartbeats 8000000 in
set_option maxRecDepth 100000 in
theorem zlines_any {v : Value} {l : List Tm} {w : World} (h : Tms v l w) (L : ByteArray) (m : Mt) (hm : m.fit) (hd : Mod l L.data.toList) :
    Calls Try.prog 12 #[v, .string L, .agg m.cells.toArray] w fun e w' => (∃ u, e = .returned u ∧ w'.ownsRow w.heap.size 9 1 u (linesF l L.data.toList m).length (strs (linesF l L.data.toList m))) ∧ Kp w w' := by
  obtain ⟨i9, hi9, z0, z1, z2⟩ := info_parts infoStr
  obtain ⟨dT, hT1, hT2⟩ := row_mt
  have HT : Hid (Try.prog.underlying 25 = some dT ∧ dT.isRow = true ∧ (Try.prog.info? 25).map (·.size) = some m.cells.length) := ⟨hT1, hT2, by rw [Mt.len hm]; exact size_mt⟩
  obtain ⟨va, vc, rfl, v1, v2, hc⟩ := h
  obtain ⟨N, hN⟩ : ∃ N, l.length = N := ⟨_, rfl⟩
  have HN : Hid (l.length = N) := hN
  have HC : Hid _ := hc
  have HD : Hid _ := hd
  have HM : Hid _ := hm
  have hB : Lc 25 w.heap.size m.cells (w.alloc (.cells m.cells.toArray 25)) ∧ Kp w (w.alloc (.cells m.cells.toArray 25)) := ⟨Lc.new _ _ _, kp_alloc _ _⟩
  obtain ⟨W0, hW0⟩ : ∃ W0, w.alloc (.cells m.cells.toArray 25) = W0 := ⟨_, rfl⟩
  obtain ⟨bm, hbm⟩ : ∃ bm, w.heap.size = bm := ⟨_, rfl⟩
  have HW0 : Hid (W0.heap.size = bm + 1 ∧ w.heap.size = bm) := ⟨by rw [← hW0, ← hbm]; exact alloc_size _ _, hbm⟩
  rw [hW0, hbm] at hB
  have HB : Hid (Lc 25 bm m.cells W0 ∧ Kp w W0) := hB
  rw [hN] at v1 ⊢
  unfold maxLen at v2
  clear hc hd hm hN hB hT1 hT2
  go_enter Try.func12, Try.ntmps12
  go_upto_region 1 with fail
  clear hW0 hbm
  obtain ⟨br, hbr⟩ : ∃ br, W0.heap.size = br := ⟨_, rfl⟩
  obtain ⟨W1, hW1⟩ : ∃ W1, W0.alloc (.cells #[.string ⟨#[]⟩] 9) = W1 := ⟨_, rfl⟩
  obtain ⟨b, hb⟩ : ∃ b, W1.heap.size = b := ⟨_, rfl⟩
  obtain ⟨W2, hW2⟩ : ∃ W2, W1.alloc (.cells #[.slice (some ⟨br, 0, none⟩) 1 1, .int .u8 0, .int .u8 0] 50) = W2 := ⟨_, rfl⟩
  have HS : Hid (Lz w bm b m (yF L.data.toList m (l.take 0)) W2) := by
    have k01 : Kp W0 W1 := by rw [← hW1]; exact kp_alloc _ _
    have k12 : Kp W1 W2 := by rw [← hW2]; exact kp_alloc _ _
    refine ⟨⟨.slice (some ⟨br, 0, none⟩) 1 1, ?_, ?_, ?_⟩, kp_trans (kp_trans HB.out.2 k01) k12, (HB.out.1.kp k01).kp k12⟩
    · rw [← hW2, ← hb]; exact Lc.new W1 [.slice (some ⟨br, 0, none⟩) 1 1, .int .u8 0, .int .u8 0] 50
    · have : W1.ownsRow w.heap.size 9 1 (.slice (some ⟨br, 0, none⟩) 1 1) 1 [.string ⟨#[]⟩] := by
        rw [← hW1, ← hbr]
        exact World.ownsRow_lit W0 #[.string ⟨#[]⟩] 1 HB.out.2.size (by unfold maxLen; omega) rfl
      exact row_kp this k12
    · rw [← hb]; exact Nat.le_trans HB.out.2.size k01.size
  go_wp2_with fail
  clear hW2 hb hW1 hbr HB
  go_loopw [8, 9] (fun v8 v9 wr => ∃ i : Nat, i ≤ N ∧ v8 = .int .i64 i ∧ Hid (Lz w bm b m (yF L.data.toList m (l.take i)) wr)) (fun v8 _ _ => N - (intOf v8).toNat)
  case atStart => exact ⟨0, Nat.zero_le _, rfl, HS.out⟩
  case round =>
    obtain ⟨i, hi, rfl, HI⟩ := hrel
    clear HS
    by_cases hlt : i < N
    · have dl : decide ((i : Int) < (N : Int)) = true := decide_eq_true (by omega)
      have hlti : (i : Int) < (N : Int) := by omega
      obtain ⟨t, ht⟩ : ∃ t, l[i]? = some t := ⟨_, List.getElem?_eq_getElem (by rw [HN.out]; exact hlt)⟩
      have HTT : Hid (yF L.data.toList m (l.take (i + 1)) = stepY L.data.toList m (yF L.data.toList m (l.take i)) t) := by
        show _ = _
        rw [List.take_add_one, ht, Option.toList_some, yF_snoc]
      have HL : Hid ((yF L.data.toList m (l.take i)).op.length ≤ 1000 * i ∧ (yF L.data.toList m (l.take i)).ls.length ≤ i ∧ i ≤ 1000) := by
        have := y_small HD.out m i (by rw [HN.out]; exact hi)
        have := HD.out.n
        rw [HN.out] at this
        exact ⟨by omega, by omega, by omega⟩
      have HX := HD.out.tx t (List.mem_of_getElem? ht)
      obtain ⟨B, oo, rfl, hB, hc⟩ := HC.out i t ht
      have k := HI.out.kp
      have hcc : ∀ j, j < 4 → wr.cell? ⟨B, oo + i * 4 + j, none⟩ = t.cells[j]? := fun j hj => by rw [← hc j hj]; simp only [World.cell?, k.block B hB]
      have HBB : Hid (B < w.heap.size) := hB
      have c0 := hcc 0 (by omega)
      have c1 := hcc 1 (by omega)
      have c2 := hcc 2 (by omega)
      have c3 := hcc 3 (by omega)
      obtain ⟨kd, tx, n, cc⟩ := t
      simp only [Tm.cells, List.getElem?_cons_zero, List.getElem?_cons_succ, Nat.add_zero] at c0 c1 c2 c3
      obtain ⟨y, hy⟩ : ∃ y, yF L.data.toList m (l.take i) = y := ⟨_, rfl⟩
      rw [hy] at HTT HL HI
      have HXX : Hid (tx.length ≤ 1000 ∧ kd < 256 ∧ cc < 256) := HX
      clear k hc hcc hB ht HX hy
      by_cases k1 : kd = 1
      · have HY : Hid (Calls Try.prog 19 #[.pointer (some ⟨b, 0, none⟩), .string ⟨tx.toArray⟩] wr fun e w' => e = .returned (.tuple #[]) ∧ Lz w bm b m (stepY L.data.toList m y ⟨1, tx, n, cc⟩) w') := by
          obtain ⟨vl, h1⟩ := HI.out.yw
          have := HL.out
          have := HXX.out
          refine (zlay_any h1 ⟨tx.toArray⟩ (by show y.op.length + tx.toArray.size ≤ _; simp; omega) (by omega)).mono ?_
          rintro e w' ⟨rfl, h2⟩
          exact ⟨rfl, HI.out.kz h2⟩
        subst k1
        go_wp2_with (go_at_call 19; refine Calls.mono HY.out ?_; rintro e w4 ⟨rfl, q⟩; have HF : Hid _ := q; clear q)
        go_roundw
        case rel => exact ⟨i + 1, by omega, by go_num, by rw [HTT.out]; exact HF.out⟩
        case measure => simp only [intOf]; omega
      have e1 : ((kd : Int) == 1) = false := by simp; omega
      by_cases k2 : kd = 2
      · subst k2
        have HG : Hid (∀ W, Calls Try.prog 20 #[.string L, .agg m.cells.toArray, .int .i64 n] W fun e w' => e = .returned (.string ⟨(grpF L.data.toList m n).toArray⟩) ∧ Kp W w') := fun W => zgroup_any L m HM.out n W
        have HY : Hid (∀ W4, Kp wr W4 → Calls Try.prog 19 #[.pointer (some ⟨b, 0, none⟩), .string ⟨(grpF L.data.toList m n).toArray⟩] W4 fun e w' => e = .returned (.tuple #[]) ∧ Lz w bm b m (stepY L.data.toList m y ⟨2, tx, n, cc⟩) w') := by
          intro W4 k4
          have ha := HI.out.kpp k4
          obtain ⟨vl, h1⟩ := ha.yw
          have := HL.out
          have := grp_len L.data.toList m n
          have := HD.out.ln
          refine (zlay_any h1 ⟨(grpF L.data.toList m n).toArray⟩ (by show y.op.length + (grpF L.data.toList m n).toArray.size ≤ _; rw [List.size_toArray]; omega) (by omega)).mono ?_
          rintro e w' ⟨rfl, h2⟩
          exact ⟨rfl, ha.kz h2⟩
        have HS0 : Hid (Lc 25 bm m.cells wr.drew ∧ wr.drew.cell? ⟨B, oo + i * 4 + 2, none⟩ = some (.int .i64 n)) := ⟨HI.out.mt.kp (kp_drew _), c2⟩
        have HSK : Hid (∀ W4, Kp w W4 → Lc 25 bm m.cells W4 → Lc 25 bm m.cells W4 ∧ W4.cell? ⟨B, oo + i * 4 + 2, none⟩ = some (.int .i64 n)) := fun W4 k l => ⟨l, by
          have e := k.block B HBB.out
          have e2 := HI.out.kp.block B HBB.out
          rw [← c2]; simp only [World.cell?, e, e2]⟩
        have HKD : Hid (Kp wr wr.drew) := kp_drew _
        go_upto_region 9 with fail
        clear c0 c1 c2 c3
        refine wp_region_noPanic ?_
        refine wp_region_held_drew (S := fun z => Lc 25 bm m.cells z ∧ z.cell? ⟨B, oo + i * 4 + 2, none⟩ = some (.int .i64 n)) (by kernel_rfl) (HS0.out) (fun hHeld => ?_)
        refine takeAt 0 (some 35) ?_ rfl rfl (by kernel_rfl) (by kernel_rfl) (by kernel_rfl) (fun _ _ _ h => h) (Or.inl ⟨by rfl, ?_⟩) hHeld ?_
        rotate_left
        · intro w hSw
          go_simp <;> with_reducible rfl
        try simp only [Act.put, List.setIfInBounds_toArray, List.set_cons_zero, List.set_cons_succ]
        refine takeAt 1 (some 36) ?_ rfl rfl (by kernel_rfl) (by kernel_rfl) (by kernel_rfl) (fun _ _ _ h => h) (Or.inl ⟨by rfl, ?_⟩) hHeld ?_
        rotate_left
        · intro w hSw
          go_simp <;> with_reducible rfl
        try simp only [Act.put, List.setIfInBounds_toArray, List.set_cons_zero, List.set_cons_succ]
        refine takeAt 2 (some 37) (.agg m.cells.toArray) rfl rfl (by kernel_rfl) (by kernel_rfl) (by kernel_rfl) (fun _ _ _ h => h) (yieldsIf_load_mid (by rfl) 25 (.tmp 5) rfl bm 0 rfl m.cells dT (fun z hz => hz.1.range 0 fun j v hj => by rw [Nat.zero_add]; exact hj) HT.out.1 HT.out.2.1 HT.out.2.2) hHeld ?_
        try simp only [Act.put, List.setIfInBounds_toArray, List.set_cons_zero, List.set_cons_succ]
        refine takeAt 3 (some 38) ?_ rfl rfl (by kernel_rfl) (by kernel_rfl) (by kernel_rfl) (fun _ _ _ h => h) (Or.inl ⟨by rfl, ?_⟩) hHeld ?_
        rotate_left
        · intro w hSw
          go_simp <;> with_reducible rfl
        try simp only [Act.put, List.setIfInBounds_toArray, List.set_cons_zero, List.set_cons_succ]
        refine takeAt 4 (some 39) ?_ rfl rfl (by kernel_rfl) (by kernel_rfl) (by kernel_rfl) (fun _ _ _ h => h) (Or.inl ⟨by rfl, ?_⟩) hHeld ?_
        rotate_left
        · intro w hSw
          go_simp <;> with_reducible rfl
        try simp only [Act.put, List.setIfInBounds_toArray, List.set_cons_zero, List.set_cons_succ]
        refine takeAt 5 (some 40) ?_ rfl rfl (by kernel_rfl) (by kernel_rfl) (by kernel_rfl) (fun _ _ _ h => h) (Or.inl ⟨by rfl, ?_⟩) hHeld ?_
        rotate_left
        · intro w hSw
          go_simp <;> with_reducible rfl
        try simp only [Act.put, List.setIfInBounds_toArray, List.set_cons_zero, List.set_cons_succ]
        refine takeAt 6 (some 41) ?_ rfl rfl (by kernel_rfl) (by kernel_rfl) (by kernel_rfl) (fun _ _ _ h => h) (Or.inl ⟨by rfl, ?_⟩) hHeld ?_
        rotate_left
        · intro w hSw
          go_simp <;> with_reducible rfl
        try simp only [Act.put, List.setIfInBounds_toArray, List.set_cons_zero, List.set_cons_succ]
        refine takeAt 7 (some 42) ?_ rfl rfl (by kernel_rfl) (by kernel_rfl) (by kernel_rfl) (fun _ _ _ h => h) (Or.inl ⟨by rfl, ?_⟩) hHeld ?_
        rotate_left
        · intro w hSw
          have hS2 := hSw.2
          go_simp <;> with_reducible rfl
        try simp only [Act.put, List.setIfInBounds_toArray, List.set_cons_zero, List.set_cons_succ]
        refine callAt 8 43 20 (vals := #[.string L, .agg m.cells.toArray, .int .i64 n]) (by kernel_rfl) rfl rfl rfl rfl (by simp [Act.eval]) Try.func20 (by kernel_rfl) (by kernel_rfl) ?_
        refine Calls.mono (HG.out _) ?_
        rintro e w4 ⟨rfl, q4⟩
        have HQ4 : Hid (Kp wr w4) := kp_trans HKD.out q4
        clear q4
        refine ⟨_, rfl, HSK.out w4 (kp_trans HI.out.kp HQ4.out) (HI.out.mt.kp HQ4.out), fun hHeld => ?_⟩
        try simp only [Act.put, List.setIfInBounds_toArray, List.set_cons_zero, List.set_cons_succ]
        refine callAt 9 44 19 (vals := #[.pointer (some ⟨b, 0, none⟩), .string ⟨(grpF L.data.toList m n).toArray⟩]) (by kernel_rfl) rfl rfl rfl rfl (by simp [Act.eval]) Try.func19 (by kernel_rfl) (by kernel_rfl) ?_
        refine Calls.mono (HY.out _ HQ4.out) ?_
        rintro e w5 ⟨rfl, q5⟩
        have HF : Hid _ := q5
        clear q5
        refine ⟨_, rfl, HSK.out w5 HF.out.kp HF.out.mt, fun hHeld => ?_⟩
        try simp only [Act.put, List.setIfInBounds_toArray, List.set_cons_zero, List.set_cons_succ]
        refine wpAnyH_done (by kernel_rfl) ?_ _
        refine NoPanic.normal ?_
        go_wp2_with fail
        go_roundw
        case rel => exact ⟨i + 1, by omega, by go_num, by rw [HTT.out]; exact HF.out⟩
        case measure => simp only [intOf]; omega
      have e2 : ((kd : Int) == 2) = false := by simp; omega
      obtain ⟨vl, hyw⟩ := HI.out.yw
      obtain ⟨g, cap, rfl, g1, g2⟩ := hyw.form
      have HYW : Hid _ := hyw
      have b0 := hyw.box.at (j := 0) rfl
      have b1 := hyw.box.at (j := 1) rfl
      have b2 := hyw.box.at (j := 2) rfl
      have f1 := hyw.box.fz 1
      have f2 := hyw.box.fz 2
      by_cases k3 : kd = 3
      · subst k3
        obtain ⟨K, hK⟩ : ∃ K, y.ls.length + 1 = K := ⟨_, rfl⟩
        have hK2 : K ≤ 1001 := by have := HL.out; omega
        obtain ⟨bt, hbt⟩ : ∃ bt, wr.heap.size = bt := ⟨_, rfl⟩
        obtain ⟨W3, hW3⟩ : ∃ W3, wr.alloc (.cells #[.string ⟨#[]⟩] 9) = W3 := ⟨_, rfl⟩
        have HA : Hid (W3.ownsRow w.heap.size 9 1 (.slice (some ⟨g, 0, none⟩) K cap) K (strs (y.ls ++ [y.op])) ∧ (∀ j u, ([.string ⟨#[]⟩] : List Value)[j]? = some u → W3.cell? ((⟨bt, 0, none⟩ : Addr).add j) = some u) ∧ w.heap.size ≤ W3.heap.size ∧ W3.heap.size = bt + 1) := by
          have h1 := hyw.kp (kp_alloc wr (.cells #[.string ⟨#[]⟩] 9))
          rw [hW3] at h1
          refine ⟨by have := h1.row; rw [hK] at this; exact this, ?_, h1.le, by rw [← hW3, ← hbt]; exact alloc_size _ _⟩
          rw [← hW3, ← hbt]
          exact cell_one_new _ _ _
        have HM2 : Hid (∀ v' w4, w4.ownsRow w.heap.size 9 1 v' (K + 1) (strs (y.ls ++ [y.op]) ++ [.string ⟨#[]⟩]) → W3.grownBy w4 (Value.slice (some ⟨g, 0, none⟩) K cap).ownBlock → (w4.cell? ⟨b, 0, none⟩ = some (Value.slice (some ⟨g, 0, none⟩) K cap) ∧ w4.frozen? ⟨b, 0, none⟩ = false) ∧ Hid (Lz w bm b m (stepY L.data.toList m y ⟨3, tx, n, cc⟩) (w4.setCell ⟨b, 0, none⟩ v'))) := by
          intro v' w4 a1 a2
          rw [← hK] at a1 a2 ⊢
          obtain ⟨q1, q2⟩ := hyw.line hW3.symm a1 a2
          exact ⟨q1, HI.out.kz q2.out⟩
        rw [hK] at b0
        clear hyw hK
        go_wp2_with (at_builtin; refine wpList_append_lies _ rfl (.tmp 51) (.tmp 52) 26 rfl w.heap.size 9 i9 _ 1 16 Try.underlying26 hi9 z0 z1 z2 rfl (by decide) (.slice (some ⟨g, 0, none⟩) K cap) K (strs (y.ls ++ [y.op])) rfl HA.out.1 ⟨bt, 0, none⟩ 1 1 [.string ⟨#[]⟩] rfl rfl HA.out.2.1 (by simp [Value.oneCell']) (by omega) (by unfold maxLen; omega) (by omega) HA.out.2.2.1 (bt + 1) HA.out.2.2.2 ?_; intro g' cap' w4 q1 q2 q3 q4; obtain ⟨⟨d0, d1⟩, HF⟩ := HM2.out _ w4 q1 q2; clear q1 q2 q3 q4)
        go_roundw
        case rel => exact ⟨i + 1, by omega, by go_num, by rw [HTT.out]; exact HF.out⟩
        case measure => simp only [intOf]; omega
      have e3 : ((kd : Int) == 3) = false := by simp; omega
      by_cases k4 : kd = 4
      · subst k4
        obtain ⟨W5, hW5⟩ : ∃ W5, wr.setCell ⟨b, 1, none⟩ (.int .u8 cc) = W5 := ⟨_, rfl⟩
        obtain ⟨W6, hW6⟩ : ∃ W6, wr.setCell ⟨b, 1, none⟩ (.int .u8 0) = W6 := ⟨_, rfl⟩
        have h5 : Yc w.heap.size b { y with nx := cc } wr W5 := by rw [← hW5]; exact ⟨_, hyw.turn (a := y.al) rfl, Kz.set hyw.box hyw.ge _⟩
        have h6 : Yw w.heap.size b { y with nx := 0 } (.slice (some ⟨g, 0, none⟩) (y.ls.length + 1) cap) W6 := by rw [← hW6]; exact hyw.turn (a := y.al) rfl
        have k6 : Kz w.heap.size wr W6 := by rw [← hW6]; exact Kz.set hyw.box hyw.ge _
        have d2 : W6.cell? ⟨b, 2, none⟩ = some (.int .u8 y.al) := h6.box.at rfl
        have d3 : W6.frozen? ⟨b, 2, none⟩ = false := h6.box.fz _
        obtain ⟨W7, hW7⟩ : ∃ W7, W6.setCell ⟨b, 2, none⟩ (.int .u8 0) = W7 := ⟨_, rfl⟩
        have h7 : Yw w.heap.size b { y with nx := 0, al := 0 } (.slice (some ⟨g, 0, none⟩) (y.ls.length + 1) cap) W7 := by rw [← hW7]; exact h6.turn (n := 0) (a := 0) rfl
        have k7 : Kz w.heap.size wr W7 := by rw [← hW7]; exact k6.trans (Kz.set h6.box h6.ge _)
        have d4 : W7.cell? ⟨b, 2, none⟩ = some (.int .u8 (0 : Nat)) := h7.box.at rfl
        have d5 : W7.frozen? ⟨b, 2, none⟩ = false := h7.box.fz _
        obtain ⟨W8, hW8⟩ : ∃ W8, W7.setCell ⟨b, 2, none⟩ (.int .u8 cc) = W8 := ⟨_, rfl⟩
        have h8 : Yc w.heap.size b { y with nx := 0, al := cc } wr W8 := by rw [← hW8]; exact ⟨_, h7.turn (n := 0) (a := cc) rfl, k7.trans (Kz.set h7.box h7.ge _)⟩
        have HP5 : Hid (Lz w bm b m { y with nx := cc } W5) := HI.out.kz h5
        have HP7 : Hid (Lz w bm b m { y with nx := 0, al := 0 } W7) := HI.out.kz ⟨_, h7, k7⟩
        have HP8 : Hid (Lz w bm b m { y with nx := 0, al := cc } W8) := HI.out.kz h8
        obtain ⟨YA, hYA⟩ : ∃ YA, y.al = YA := ⟨_, rfl⟩
        obtain ⟨YN, hYN⟩ : ∃ YN, y.nx = YN := ⟨_, rfl⟩
        rw [hYA] at b2 d2
        rw [hYN] at b1
        clear h5 h6 k6 h7 k7 h8 hyw hYA hYN
        by_cases a1 : cc = 117
        · have a2 : ((cc : Int) == 117) = true := by simp; omega
          have HE : Hid (stepY L.data.toList m y ⟨4, tx, n, cc⟩ = { y with nx := cc }) := by show _ = _; subst a1; rfl
          clear a1
          go_wp2_with fail
          go_roundw
          case rel => exact ⟨i + 1, by omega, by go_num, by rw [HTT.out, HE.out]; exact HP5.out⟩
          case measure => simp only [intOf]; omega
        have n1 : ((cc : Int) == 117) = false := by simp; omega
        by_cases a3 : cc = 108
        · have a2 : ((cc : Int) == 108) = true := by simp; omega
          have HE : Hid (stepY L.data.toList m y ⟨4, tx, n, cc⟩ = { y with nx := cc }) := by show _ = _; subst a3; rfl
          clear a3 a1
          go_wp2_with fail
          go_roundw
          case rel => exact ⟨i + 1, by omega, by go_num, by rw [HTT.out, HE.out]; exact HP5.out⟩
          case measure => simp only [intOf]; omega
        have n2 : ((cc : Int) == 108) = false := by simp; omega
        by_cases a4 : cc = 85
        · have a2 : ((cc : Int) == 85) = true := by simp; omega
          have HE : Hid (stepY L.data.toList m y ⟨4, tx, n, cc⟩ = { y with nx := 0, al := cc }) := by show _ = _; subst a4; rfl
          clear a4 a1 a3
          go_wp2_with fail
          go_roundw
          case rel => exact ⟨i + 1, by omega, by go_num, by rw [HTT.out, HE.out]; exact HP8.out⟩
          case measure => simp only [intOf]; omega
        have n3 : ((cc : Int) == 85) = false := by simp; omega
        by_cases a5 : cc = 76
        · have a2 : ((cc : Int) == 76) = true := by simp; omega
          have HE : Hid (stepY L.data.toList m y ⟨4, tx, n, cc⟩ = { y with nx := 0, al := cc }) := by show _ = _; subst a5; rfl
          clear a5 a1 a3 a4
          go_wp2_with fail
          go_roundw
          case rel => exact ⟨i + 1, by omega, by go_num, by rw [HTT.out, HE.out]; exact HP8.out⟩
          case measure => simp only [intOf]; omega
        have n4 : ((cc : Int) == 76) = false := by simp; omega
        have HE : Hid (stepY L.data.toList m y ⟨4, tx, n, cc⟩ = { y with nx := 0, al := 0 }) := by
          show _ = _
          show y.say cc = _
          unfold Ly.say
          rw [if_neg (by omega), if_neg (by omega)]
        clear a5 a1 a3 a4
        go_wp2_with fail
        go_roundw
        case rel => exact ⟨i + 1, by omega, by go_num, by rw [HTT.out, HE.out]; exact HP7.out⟩
        case measure => simp only [intOf]; omega
      have e4 : ((kd : Int) == 4) = false := by simp; omega
      have HE : Hid (stepY L.data.toList m y ⟨kd, tx, n, cc⟩ = y) := by
        show _ = _
        unfold stepY
        rw [if_neg k1, if_neg k2, if_neg k3, if_neg k4]
      clear hyw
      go_wp2_with fail
      go_roundw
      case rel => exact ⟨i + 1, by omega, by go_num, by rw [HTT.out, HE.out]; exact HI.out⟩
      case measure => simp only [intOf]; omega
    · obtain rfl : i = N := by omega
      have dl : decide ((i : Int) < (i : Int)) = false := by simp
      rw [List.take_of_length_le (by rw [HN.out]; exact Nat.le_refl _)] at HI
      obtain ⟨vl, hyw⟩ := HI.out.yw
      have b0 := hyw.box.at (j := 0) rfl
      have HF : Hid (wr.ownsRow w.heap.size 9 1 vl (linesF l L.data.toList m).length (strs (linesF l L.data.toList m))) := by
        have := hyw.row
        rw [y_lines] at this
        have e : (yF L.data.toList m l).ls.length + 1 = (linesF l L.data.toList m).length := by rw [← y_lines]; simp
        rw [e] at this
        exact this
      clear hyw
      go_wp2_with fail
      go_ret
      exact ⟨⟨_, rfl, HF.out⟩, HI.out.kp⟩
end Go.Proofs.Ythkodldldipimaa
