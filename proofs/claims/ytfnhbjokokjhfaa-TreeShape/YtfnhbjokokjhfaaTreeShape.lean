/- For every list of lines and every list of calls the statement TreeShape returns true; no condition. -/
import Derived.Test.YtfnhbjokokjhfaaHeavy
import Derived.ShutString
import Derived.ChangeOld
namespace Go.Proofs.Ytfnhbjokokjhfaa.treeShape
open Go.ChangeShapes Go.WideShapes Go.ChangeAt Go.RowKit
open Go.ChangeMaps (open_string shut_string)
set_option linter.unusedVariables false

theorem own : ownKnob Try.prog.godebug = none := by kernel_rfl
theorem laidOut : laidOutB Try.prog = true := by kernel_rfl

theorem shaped_other {w w' w2 : World} {n : Nat} {v : Value} (h : Shaped w n v w') (hb : Below w'.heap.size w' w2) : Shaped w n v w2 := by
  obtain ⟨p, wss, svs, h1, h2⟩ := h
  exact ⟨p, wss, svs, h1.other hb, h2⟩
theorem shaped_parts {w w' : World} {n : Nat} {v : Value} (h : Shaped w n v w') : ∃ ob K cap, v = .slice (some ⟨ob, 0, none⟩) K cap ∧ 1 ≤ K ∧ K ≤ cap ∧ cap ≤ maxLen ∧ (1 < K → 2 * 4 ^ (K - 1) ≤ n) := by
  obtain ⟨p, wss, svs, h1, h2⟩ := h
  obtain ⟨x, hx⟩ := h2.one
  have h0 := (List.getElem?_eq_some_iff.1 hx).1
  obtain ⟨ob, cap, e, hG⟩ := h1.grid (by omega)
  exact ⟨ob, _, cap, e, by omega, hG.le, hG.mx, h2.deep⟩
theorem lenQ {B : Nat} {W wr : World} {t r m : Nat} {ls : List ByteArray} {bx : List (Nat × Obj)} (h : Two B W wr t r ls ls m bx) : Calls Try.prog 18 #[.pointer (some ⟨t, 0, none⟩)] wr fun e w' => e = .returned (.int .i64 ls.length) ∧ ∃ q, w' = wr.drewN q := by
  obtain ⟨o, h1, _⟩ := h.ex
  exact h1.len
theorem pow_le (k K : Nat) (h : k ≤ K) : 2 * 4 ^ k ≤ 2 * 4 ^ K := Nat.mul_le_mul_left _ (Nat.pow_le_pow_right (by omega) h)
theorem walk_out (W : World) (a a' : Option Addr) (L cap P cap' : Nat) (hh : Calls Try.prog 22 #[.slice a L cap, .slice a' P cap'] W fun e w' => e = .returned (.bool true) ∧ ∃ q, w' = W.drewN q) :
    Calls Try.prog 7 #[.slice a L cap, .slice a' P cap'] W fun e w' => e = .returned (.bool true) ∧ Below W.heap.size W w' := by
  have HH : Hid (Calls Try.prog 22 #[.slice a L cap, .slice a' P cap'] W fun e w' => e = .returned (.bool true) ∧ ∃ q, w' = W.drewN q) := hh
  clear hh
  go_enter Try.func7, Try.ntmps7
  go_wp2_with fail
  refine HH.out.mono ?_
  rintro e x0 ⟨rfl, q, rfl⟩
  go_wp2_with fail
  refine (known_any _).mono ?_
  rintro e x1 ⟨rfl, hb1⟩
  have HB1 : Hid (Below W.heap.size W x1) := (below_drewN W q).trans hb1
  clear hb1
  go_wp2_with fail
  go_ret
  exact ⟨rfl, HB1.out⟩
set_option maxHeartbeats 8000000 in
set_option maxRecDepth 100000 in
theorem walk_in (W : World) (ms : List ByteArray) (ps : List OpD) (v v' : Value) (hv : Lies nobody W v ms) (hn : ∀ n c, v = .slice none n c → n = 0 ∧ c = 0) (hv' : OpsAt W v' ps) (h : ms.length ≤ 300) (h' : ps.length ≤ 200) (hp : ∀ p ∈ ps, p.l.length ≤ 50) (hz : ∀ p ∈ ps, OpSz p) (hy : ∀ y ∈ ms, y.size ≤ reachBytes) :
    Calls Try.prog 7 #[v, v'] W fun e w' => e = .returned (.bool true) ∧ Below W.heap.size W w' := by
  have hr := reachBytes_lt
  have hsm : sizes ms < 2 ^ 60 := by
    have := sizes_le hy
    have : ms.length * reachBytes ≤ 300 * reachBytes := Nat.mul_le_mul_right _ h
    omega
  obtain ⟨a, cap, rfl, c1, c2⟩ := hv.form
  have HM : Hid (sizes ms < 2 ^ 60 ∧ (∀ y ∈ ms, y.size ≤ reachBytes) ∧ (∀ p ∈ ps, p.l.length ≤ 50) ∧ ∀ p ∈ ps, OpSz p) := ⟨hsm, hy, hp, hz⟩
  have HV : Hid (Lies nobody W (.slice a ms.length cap) ms ∧ ∀ n c, (Value.slice a ms.length cap) = .slice none n c → n = 0 ∧ c = 0) := ⟨hv, hn⟩
  have HP : Hid (OpsAt W v' ps) := hv'
  obtain ⟨a', cap', rfl, p1, p2, _⟩ := hv'
  obtain ⟨L, hL⟩ : ∃ L, ms.length = L := ⟨_, rfl⟩
  obtain ⟨P, hP⟩ : ∃ P, ps.length = P := ⟨_, rfl⟩
  have HL : Hid (ms.length = L ∧ ps.length = P) := ⟨hL, hP⟩
  rw [hL] at c1 h HV ⊢
  rw [hP] at p1 h' HP ⊢
  have HH : Hid (Calls Try.prog 22 #[.slice a L cap, .slice a' P cap'] W fun e w' => e = .returned (.bool false) ∧ ∃ q, w' = W.drewN q) := by
    have := heavy_any W a a' L cap P cap' ps hP HP.out h h'
    rw [show (ps.any fun p => decide (50 < p.l.length)) = false by
      rw [List.any_eq_false]; intro p hq; have := hp p hq; simp; omega] at this
    exact this
  unfold maxLen at c2 p2
  clear hv hn hp hz hy hL hP hsm
  go_enter Try.func7, Try.ntmps7
  go_wp2_with fail
  refine HH.out.mono ?_
  rintro e x0 ⟨rfl, q, rfl⟩
  clear HH
  go_wp2_with fail
  refine (known_any _).mono ?_
  rintro e x1 ⟨rfl, hb1⟩
  have HB1 : Hid (Below W.heap.size W x1) := (below_drewN W q).trans hb1
  clear hb1
  go_wp2_with fail
  refine (new_any (HV.out.1.below HB1.out (Nat.le_refl _)) (by rw [HL.out.1]; omega) (by have := HM.out.1; omega)).mono ?_
  rintro e x2 ⟨rfl, ha⟩
  obtain ⟨t, ht⟩ : ∃ t, x1.heap.size = t := ⟨_, rfl⟩
  rw [ht] at ha ⊢
  have HA : Hid (After nobody x1 t ms (1 + 22 * ms.length) x2 ∧ Below W.heap.size W x2) := ⟨ha, by
    obtain ⟨oa, a1, a2⟩ := ha
    exact HB1.out.trans ((old_nobody (B := W.heap.size)).keeps a2 HB1.out.size).2⟩
  clear ha ht
  go_wp2_with fail
  refine (rnew_any (HV.out.1.below HA.out.2 (Nat.le_refl _)) HV.out.2 (by rw [HL.out.1]; omega)).mono ?_
  rintro e x3 ⟨rfl, hb3, hrf⟩
  have H0 : Hid (Two W.heap.size W x3 t x2.heap.size ms ms 10000 []) := (two_new HB1.out (Nat.le_refl _) HA.out.1 rfl hb3 hrf).mono (by rw [HL.out.1]; omega)
  clear hb3 hrf HA HB1 HV
  generalize x2.heap.size = r at *
  go_wp2_with fail
  go_loopw [7] (fun vi wr => ∃ (i : Nat) (ls : List ByteArray), i ≤ P ∧ vi = .int .i64 i ∧ ls.length ≤ 300 + 50 * i ∧ (∀ y ∈ ls, y.size ≤ reachBytes) ∧ Two W.heap.size W wr t r ls ls (10000 + 227920 * i) []) (fun vi _ => P - (intOf vi).toNat)
  case atStart => exact ⟨0, ms, Nat.zero_le _, rfl, by rw [HL.out.1]; omega, HM.out.2.1, H0.out⟩
  case round =>
    obtain ⟨i, ls, hi, rfl, hll, hys, hO⟩ := hrel
    by_cases hlt : i < P
    · have hd3 : decide ((i : Int) < (P : Int)) = true := by simp; omega
      have hx : ps[i]? = some (ps[i]'(by rw [HL.out.2]; exact hlt)) := List.getElem?_eq_getElem _
      generalize ps[i]'(by rw [HL.out.2]; exact hlt) = p at hx
      obtain ⟨b, off, rfl, hok, hc⟩ := HP.out.cell hx
      have hmem := List.mem_of_getElem? hx
      have HD : Hid (Calls Try.prog 24 #[.pointer (some ⟨t, 0, none⟩), .pointer (some ⟨r, 0, none⟩), .agg #[.int .u8 p.kind, .int .i64 p.i, .int .i64 p.n, .string p.s, p.lv]] wr fun e w' => e = .returned (.bool true) ∧ Done W.heap.size W t r ls (10000 + 227920 * i + 22 * (ls.length + 60)) [] w') :=
        does_any hO rfl p hok (HM.out.2.2.2 p hmem) (HM.out.2.2.1 p hmem) (by omega) (by omega) hys
      have HC : Hid (∀ W', Below W.heap.size W W' → OpAt W' b (off + i * 5) p) := hc
      obtain ⟨k0, k1, k2, k3, k4⟩ := hc wr hO.below
      have HLL : Hid (ls.length ≤ 300 + 50 * i) := hll
      clear hx hc hok hmem hO hys hll
      go_wp2_with fail
      refine HD.out.mono ?_
      rintro e w2 ⟨rfl, ls', q1, q2, q3⟩
      have HT : Hid (Two W.heap.size W w2 t r ls' ls' (10000 + 227920 * (i + 1)) [] ∧ ls'.length ≤ 300 + 50 * (i + 1) ∧ ∀ y ∈ ls', y.size ≤ reachBytes) := ⟨q1.mono (by have := HLL.out; omega), by have := HLL.out; omega, q3⟩
      have hls : ls'.length ≤ 20000 := by have := HT.out.2.1; omega
      obtain ⟨R, hR⟩ : ∃ R, ls'.length = R := ⟨_, rfl⟩
      rw [hR] at hls
      have HR : Hid (ls'.length = R ∧ R ≤ 20000) := ⟨hR, by omega⟩
      clear q1 q2 q3 hR HD k0 k1 k2 k3 k4
      go_wp2_with fail
      refine (HT.out.1.shape (by rw [HR.out.1]; omega)).mono ?_
      rintro e w3 ⟨v3, rfl, hS, hT3⟩
      rw [HR.out.1] at hS
      obtain ⟨ob, K, kc, rfl, k1, k2, k3, kd⟩ := shaped_parts hS
      have HS : Hid (Shaped w2 R (.slice (some ⟨ob, 0, none⟩) K kc) w3 ∧ Two W.heap.size W w3 t r ls' ls' (10000 + 227920 * (i + 1)) []) := ⟨hS, hT3⟩
      have HK : Hid (1 < K → 2 * 4 ^ (K - 1) ≤ R) := kd
      unfold maxLen at k3
      clear hS hT3 kd
      go_wp2_with fail
      refine Calls.mono (lenQ HS.out.2) ?_
      rintro e w4 ⟨rfl, q4, rfl⟩
      rw [HR.out.1]
      have HS4 : Hid (Shaped w2 R (.slice (some ⟨ob, 0, none⟩) K kc) (w3.drewN q4) ∧ Two W.heap.size W (w3.drewN q4) t r ls' ls' (10000 + 227920 * (i + 1)) []) := ⟨shaped_other HS.out.1 (below_drewN _ _), HS.out.2.drewN _⟩
      generalize w3.drewN q4 = w4 at *
      go_wp2_with fail
      refine Calls.mono (HS4.out.1.shaped (by omega)) ?_
      rintro e w5 ⟨rfl, q5, rfl⟩
      have H5 : Hid (Two W.heap.size W (w4.drewN q5) t r ls' ls' (10000 + 227920 * (i + 1)) []) := HS4.out.2.drewN q5
      generalize w4.drewN q5 = w5 at *
      clear HS HS4
      go_wp2_with fail
      go_loopw [9, 10] (fun vl vk wr => ∃ (k N : Nat), 2 ≤ k ∧ (k ≤ K ∨ k = 2) ∧ vk = .int .i64 k ∧ vl = .int .i64 N ∧ N = 2 * 4 ^ (k - 2) ∧ ∃ q, wr = w5.drewN q) (fun _ vk _ => K - (intOf vk).toNat)
      case atStart => exact ⟨2, 2, by omega, by omega, rfl, rfl, by simp, 0, rfl⟩
      case round =>
        obtain ⟨k, N, g1, g2, rfl, rfl, g3, q6, rfl⟩ := hrel
        by_cases hkK : k < K
        · have hd4 : decide ((k : Int) < (K : Int)) = true := by simp; omega
          have g4 : 4 * N ≤ 20000 := by
            have e1 : 4 * N = 2 * 4 ^ (k - 1) := by rw [g3, show k - 1 = k - 2 + 1 by omega, Nat.pow_succ]; omega
            have e2 := pow_le (k - 1) (K - 1) (by omega)
            have e3 := HK.out (by omega)
            omega
          have HN : Hid (N = 2 * 4 ^ (k - 2)) := g3
          clear g3
          go_wp2_with fail
          go_roundw
          case rel => exact ⟨k + 1, 4 * N, by omega, by omega, by go_num, by go_num, by rw [HN.out, show k + 1 - 2 = k - 2 + 1 by omega, Nat.pow_succ]; omega, _, rfl⟩
          case measure => simp [intOf]; omega
        · have hd4 : decide ((k : Int) < (K : Int)) = false := by simp; omega
          have H6 : Hid (Two W.heap.size W (w5.drewN q6) t r ls' ls' (10000 + 227920 * (i + 1)) []) := H5.out.drewN q6
          generalize w5.drewN q6 = w6 at *
          by_cases h1K : 1 < K
          · have hd5 : decide ((1 : Int) < (K : Int)) = true := by simp; omega
            have g4 : 4 * N ≤ R := by
              have e1 : 4 * N = 2 * 4 ^ (K - 1) := by rw [g3, show K - 1 = k - 2 + 1 by omega, Nat.pow_succ]; omega
              have e3 := HK.out h1K
              omega
            have hq : (4 * (N : Int)) / 4 = (N : Int) := by omega
            have hq2 : (4 * (N : Int)).tdiv 4 = (N : Int) := by rw [Int.tdiv_eq_ediv_of_nonneg (by omega)]; omega
            have hd6 : decide ((R : Int) < (N : Int)) = false := by simp; omega
            clear g3
            go_wp2_with fail
            refine Calls.mono (H6.out.len) ?_
            rintro e w7 ⟨rfl, hT7⟩
            rw [HR.out.1]
            have H7 : Hid (Two W.heap.size W w7 t r ls' ls' (10000 + 227920 * (i + 1)) []) := hT7
            clear hT7
            go_wp2_with fail
            go_roundw
            case rel => exact ⟨i + 1, ls', by omega, by go_num, HT.out.2.1, HT.out.2.2, H7.out⟩
            case measure => simp [intOf]; omega
          · have hd5 : decide ((1 : Int) < (K : Int)) = false := by simp; omega
            clear g3
            go_wp2_with fail
            go_roundw
            case rel => exact ⟨i + 1, ls', by omega, by go_num, HT.out.2.1, HT.out.2.2, H6.out⟩
            case measure => simp [intOf]; omega
    · obtain rfl : i = P := by omega
      have hd3 : decide ((i : Int) < (i : Int)) = false := by simp
      have hls : ls.length ≤ 20000 := by omega
      obtain ⟨R, hR⟩ : ∃ R, ls.length = R := ⟨_, rfl⟩
      rw [hR] at hls
      have HT : Hid (ls.length = R ∧ Two W.heap.size W wr t r ls ls (10000 + 227920 * i) []) := ⟨hR, hO⟩
      clear hO hR hys hll
      go_wp2_with fail
      refine (HT.out.2.shape (by rw [HT.out.1]; omega)).mono ?_
      rintro e w3 ⟨v3, rfl, hS, hT3⟩
      rw [HT.out.1] at hS
      have HS : Hid (Shaped wr R v3 w3 ∧ Two W.heap.size W w3 t r ls ls (10000 + 227920 * i) []) := ⟨hS, hT3⟩
      clear hS hT3
      go_wp2_with fail
      refine Calls.mono (lenQ HS.out.2) ?_
      rintro e w4 ⟨rfl, q4, rfl⟩
      rw [HT.out.1]
      have HS4 : Hid (Shaped wr R v3 (w3.drewN q4) ∧ Two W.heap.size W (w3.drewN q4) t r ls ls (10000 + 227920 * i) []) := ⟨shaped_other HS.out.1 (below_drewN _ _), HS.out.2.drewN _⟩
      generalize w3.drewN q4 = w4 at *
      go_wp2_with fail
      refine Calls.mono (HS4.out.1.shaped (by omega)) ?_
      rintro e w5 ⟨rfl, q5, rfl⟩
      have H5 : Hid (Two W.heap.size W (w4.drewN q5) t r ls ls (10000 + 227920 * i) []) := HS4.out.2.drewN q5
      generalize w4.drewN q5 = w5 at *
      go_wp2_with fail
      go_ret
      exact ⟨rfl, H5.out.below⟩
theorem walk (W : World) (v : Value) (ms : List ByteArray) (hv : Lies nobody W v ms ∧ ∀ n c, v = .slice none n c → n = 0 ∧ c = 0) (hb : ∀ y ∈ ms, y.size ≤ reachBytes) (v' : Value) (ps : List OpD) (hv' : OpsAt W v' ps) (hz : ∀ p ∈ ps, OpSz p) : Calls Try.prog 7 #[v, v'] W fun e w' => e = .returned (.bool true) ∧ Below W.heap.size W w' := by
  by_cases h : ms.length ≤ 300 ∧ ps.length ≤ 200 ∧ ∀ p ∈ ps, p.l.length ≤ 50
  · exact walk_in W ms ps v v' hv.1 hv.2 hv' h.1 h.2.1 h.2.2 hz hb
  · obtain ⟨a, cap, rfl, c1, c2⟩ := hv.1.form
    have ho := hv'
    obtain ⟨a', cap', rfl, p1, p2, _⟩ := hv'
    by_cases h3 : ms.length ≤ 300 ∧ ps.length ≤ 200
    · have := heavy_any W a a' _ cap _ cap' ps rfl ho h3.1 h3.2
      rw [show (ps.any fun p => decide (50 < p.l.length)) = true by
        rw [List.any_eq_true]
        apply Classical.byContradiction
        intro hne
        refine h ⟨h3.1, h3.2, fun p hp => ?_⟩
        apply Classical.byContradiction
        intro hq
        exact hne ⟨p, hp, by simp; omega⟩] at this
      exact walk_out W a a' _ cap _ cap' this
    · exact walk_out W a a' _ cap _ cap' (heavy_big W a a' _ cap _ cap' (by omega))

set_option maxRecDepth 100000 in
theorem lifted (os : Os) (started : os.Started) (H : Type) (enc : TypeId × Value → H) :
    ReturnsInHanded {} Try.checked os 7 .any (Rows.treeShapeSpec.pre6 enc Try.prog Try.f7 Rows.treeShapeRow.domain false) (Rows.treeShapeSpec.post enc Try.prog Try.f7 false true false false) := by
  refine returnsInHanded_of_change_sized (C := Try.checked) own started (by kernel_rfl) Try.func7
    (ChangeSpec.witness6 (enc := enc) (C := Try.checked) false ⟨#[], #[.slice none 0 0, .slice none 0 0], []⟩ 8 (by kernel_rfl) (by kernel_rfl) (by kernel_rfl) (by kernel_rfl)) ?_
  intro W base args ds gs before hval0 hW hcnd hsized0 _
  have hval : ∀ (j : Nat) t v, Try.f7.params[j]? = some t → args[j]? = some v → Value.okWide Try.prog W .any base t v := hval0
  have hW' := hW
  obtain ⟨p, q, hA0, hV, rfl, hfz, hnd⟩ := hW
  have hA : DataW.TrodAll enc Try.prog W 0 (fun _ => true) true Try.f7.params.toList args.toList ds p := hA0
  have hsized : (DataW.weightsEach Try.prog (Try.f7.params.toList ++ Rows.treeShapeSpec.plain.varTypes Try.prog) (ds ++ gs)).all (· ≤ reachBytes) = true := hsized0
  rw [Try.params7] at hA hval hsized
  obtain ⟨v0, vs0, d0, ds0, p0, q0, hargs, rfl, rfl, h0, r0⟩ := trodAll_cons hA
  obtain ⟨v1, vs1, d1, ds1, p1, q1, rfl, rfl, rfl, h1, r1⟩ := trodAll_cons r0
  obtain ⟨rfl, rfl, rfl⟩ := trodAll_nil r1
  obtain rfl : args = #[v0, v1] := by cases args; simp_all
  obtain ⟨rfl, rfl⟩ := trodVars_none hV
  have s0 := weights_all hsized (j := 0) rfl rfl
  have s1 := weights_all hsized (j := 1) rfl rfl
  have k0 := h0
  have lt0 : ∀ x ∈ p0, x.block < W.heap.size := by obtain ⟨m, hm⟩ := k0; exact DataW.trod_lt m _ _ _ hm
  obtain ⟨a0, w0, z0⟩ := strs_formn (hval 0 22 v0 rfl rfl) h0
  have k1 := h1
  have lt1 : ∀ x ∈ p1, x.block < W.heap.size := by obtain ⟨m, hm⟩ := k1; exact DataW.trod_lt m _ _ _ hm
  obtain ⟨a1, w1, z1⟩ := ops_form (hval 1 44 v1 rfl rfl) h1
  clear hA0 hval0 hsized0
  refine (walk W v0 a0 w0 (z0 s0) v1 a1 w1 (z1 s1)).mono fun e W' ⟨he, bel⟩ => ?_
  subst he
  exact ⟨_, rfl, _, _, _, [], _, [], hW', trodAll_mk1 (shut_bool Try.underlying4 _), (trodAll_cons_mk (Below.trod laidOut (by kernel_rfl) (of_decide_eq_true (by kernel_rfl)) k0 bel lt0) (trodAll_cons_mk (Below.trod laidOut (by kernel_rfl) (of_decide_eq_true (by kernel_rfl)) k1 bel lt1) trodAll_mk0)), rfl, bel.frame _, fun h => by cases h⟩

theorem over : Rows.treeShapeRow.holds Try.pinned (OpenSpec.ofChange Rows.treeShapeSpec) :=
  OpenClaim.holds_of_wide 7 Try.f7 rfl rfl rfl rfl rfl rfl rfl ⟨rfl, rfl, rfl, rfl, rfl⟩ rfl rfl rfl rfl rfl (by kernel_rfl) Try.func7 (by kernel_rfl)
    (of_decide_eq_true (by kernel_rfl)) (by unfold Func.isWrapper; first | (rw [if_pos (by decide +kernel)]; kernel_rfl) | (rw [if_neg (by decide +kernel)]; exact ⟨rfl, rfl⟩))
    (fun os started H enc _ => lifted os started H enc)

end Go.Proofs.Ytfnhbjokokjhfaa.treeShape
namespace Go.Proofs.Ytfnhbjokokjhfaa
theorem treeShape_holds : Rows.TreeShapeSaid := treeShape.over
#print axioms treeShape_holds
end Go.Proofs.Ytfnhbjokokjhfaa
