/- Texts that the proof of the law stands on: PAlt. -/
import Derived.Test.YtlgemficalcghaaGreatPartI
/- ProgAlt: the walk. -/
namespace Go.Proofs.YtlgemficalcghaaGreat
open Go.ChangeShapes Go.WideShapes Go.ChangeAt Go.RowKit
set_option linter.unusedVariables false
set_option linter.unusedSimpArgs false
theorem sA_len (i : Nat) : (sA i).length ≤ 3 * i := by
  induction i with
  | zero => simp [sA]
  | succ i ih =>
    simp only [sA]
    split
    · simp; omega
    · simp; omega
section
variable {w w1 : World}
theorem byte_str (w : World) (n : Int) (c : UInt8) (h : n = (c.toNat : Int)) : (convert 22 9 (.slice (some ⟨w.heap.size, 0, none⟩) 1 1)).run Tryz.prog (w.alloc (.cells #[.int .u8 n] 5)) = .ok (str [c]) (w.alloc (.cells #[.int .u8 n] 5)) :=
  run_convert_bytes_back (P := Tryz.prog) _ 22 9 5 ⟨w.heap.size, 0, none⟩ 1 [c] Tryz.underlying22 Tryz.underlying5 Tryz.underlying9 (fun j hj => by
    have hj0 : j = 0 := by simpa using hj
    subst hj0
    rw [Addr.add_lit, cell_at (alloc_new w _)]
    show some (Value.int .u8 n) = some (Value.int .u8 (c.toNat : Int))
    rw [h])
theorem Cd.cell8 {b o cap n : Nat} {C : List Ins} (h : Cd w (.slice (some ⟨b, o, none⟩) n cap) C) {i : Nat} {d : Ins} (hi : C[i]? = some d) (j : Nat) (u : Value) (hj : d.cells[j]? = some u) : w.cell? ⟨b, o + i * 8 + j, none⟩ = some u := by
  obtain ⟨b', o', e, q⟩ := h.at_ hi
  injection e with e
  injection e with e1 e2
  subst e1 e2
  exact q j u hj
/-- What is known of the code of so many branches. -/
structure AltF (M : Nat) (C : List Ins) : Prop where
  len : C.length = 3 * M - 1
  sp : ∀ i, i < M - 1 → C[3 * i]? = some (splitI false (3 * i) (3 * i + 3))
  by_ : ∀ i, i < M - 1 → ∃ d, C[3 * i + 1]? = some d ∧ d.c = 97 + i
  jp : ∀ i, i < M - 1 → C[3 * i + 2]? = some (jumpI (3 * M - 2))
  la : ∃ d, C[3 * M - 3]? = some d ∧ d.c = 97 + (M - 1)
theorem altC_f {M : Nat} {C : List Ins} (h : altC M C = true) : AltF M C := by
  simp only [altC, Bool.and_eq_true, decide_eq_true_eq, List.all_eq_true, List.mem_range] at h
  obtain ⟨⟨h1, h2⟩, h3⟩ := h
  refine ⟨h1, fun i hi => (h2 i hi).1.1, fun i hi => ?_, fun i hi => (h2 i hi).2, ?_⟩
  · obtain ⟨d, q1, q2⟩ := Option.map_eq_some_iff.1 (h2 i hi).1.2
    exact ⟨d, q1, q2⟩
  · obtain ⟨d, q1, q2⟩ := Option.map_eq_some_iff.1 h3
    exact ⟨d, q1, q2⟩
set_option maxHeartbeats 4000000 in
set_option maxRecDepth 100000 in
theorem alt_law (n : Nat) (hn : n < 256) (g : Gm w) : Calls Tryz.prog 3 #[.int .u8 n] w fun e w' => e = .returned (.bool true) ∧ Kp w w' := by
  obtain ⟨m, hm⟩ : ∃ m, n % 20 = m := ⟨_, rfl⟩
  have e1 : (n : Int) % 20 = (m : Int) := by omega
  obtain ⟨M, hM⟩ : ∃ M, m + 1 = M := ⟨_, rfl⟩
  have e2 : 1 + (m : Int) = (M : Int) := by omega
  have hM20 : 1 ≤ M ∧ M ≤ 20 := by omega
  have hch := chAlt_all ⟨m, by omega⟩
  simp only [hM] at hch
  have HG : Hid (Gm w ∧ chAlt M = true) := ⟨g, hch⟩
  clear g hm hM hch
  go_enter Tryz.func3, Tryz.ntmps3
  go_wp2_with fail
  go_loopw [4, 5] (fun v4 v5 wr => ∃ i : Nat, i ≤ M ∧ v5 = .int .i64 i ∧ v4 = str (sA i) ∧ Hid (Kp w wr)) (fun _ v5 _ => M - (intOf v5).toNat)
  case atStart => exact ⟨0, Nat.zero_le _, rfl, rfl, Below.refl _ _⟩
  case round =>
    obtain ⟨i, hi, rfl, rfl, HK⟩ := hrel
    by_cases hlt : i < M
    · have dl : decide ((i : Int) < (M : Int)) = true := decide_eq_true (by omega)
      obtain ⟨c, hc⟩ : ∃ c, (97 + i).toUInt8 = c := ⟨_, rfl⟩
      have ec : 97 + (i : Int) = (c.toNat : Int) := by rw [← hc]; simp [Nat.toUInt8]; omega
      have hl := sA_len i
      have hcv := fun W => byte_str W (97 + (i : Int)) c ec
      have HL : Hid ((sA (i + 1)).length ≤ 1000) := by have := sA_len (i + 1); show _ ≤ _; omega
      by_cases h0 : 0 < i
      · have d0 : decide ((0 : Int) < (i : Int)) = true := decide_eq_true (by omega)
        obtain ⟨y, hy⟩ : ∃ y, sA i ++ [92, 124] = y := ⟨_, rfl⟩
        have hA1 := cat_run hy (by rw [← hy]; simp; omega)
        obtain ⟨z, hz⟩ : ∃ z, sA (i + 1) = z := ⟨_, rfl⟩
        have hA2 := cat_run (show y ++ [c] = z from by rw [← hy, ← hz, ← hc]; simp [sA, h0]) (by rw [← hz]; have := HL.out; omega)
        have HZ : Hid (sA (i + 1) = z) := hz
        clear hy hz hc ec hl
        go_wp2_with fail
        go_roundw
        case rel => exact ⟨i + 1, by omega, by go_num, by rw [HZ.out], kp_trans HK.out (kp_alloc _ _)⟩
        case measure => simp only [intOf]; omega
      · have hi0 : i = 0 := by omega
        subst hi0
        have hA2 := cat_run (show ([] : List UInt8) ++ [c] = [c] from rfl) (by simp)
        have HZ : Hid (sA (0 + 1) = [c]) := by rw [← hc]; rfl
        have hs0 : sA 0 = [] := rfl
        rw [hs0]
        clear hc ec hl
        simp only [Int.natCast_zero, Int.add_zero] at hcv dl ⊢
        go_wp2_with fail
        go_roundw
        case rel => exact ⟨0 + 1, by omega, by go_num, by rw [HZ.out], kp_trans HK.out (kp_alloc _ _)⟩
        case measure => simp only [intOf]; omega
    · have hiM : i = M := by omega
      subst hiM
      have dl : decide ((i : Int) < (i : Int)) = false := by simp
      have hch := HG.out.2
      unfold chAlt at hch
      cases hr : resF (sA i) with
      | none => rw [hr] at hch; cases hch
      | some r =>
        rw [hr] at hch
        simp only [Bool.and_eq_true, beq_iff_eq] at hch
        obtain ⟨⟨ho, hcs⟩, hpx⟩ := hch
        cases hp : progF r.t with
        | none => rw [hp] at hpx; cases hpx
        | some x =>
          rw [hp] at hpx
          simp only [Bool.and_eq_true, beq_iff_eq] at hpx
          obtain ⟨hx2, hal⟩ := hpx
          obtain ⟨C, rd⟩ := x
          simp only at hx2 hal
          subst hx2
          have HF : Hid (resF (sA i) = some r ∧ okR r = true ∧ progF r.t = some (C, 0) ∧ AltF i C ∧ Kp w wr) := ⟨hr, ho, hp, altC_f hal, HK.out⟩
          clear hr ho hp hal hcs
          go_wp2_with fail
          refine Calls.mono (seen_parse HF.out.1 (HG.out.1.kp HF.out.2.2.2.2)) ?_
          rintro e w1 ⟨va, vc, rfl, q1, q2⟩
          have H1 : Hid (Pt w1 (.slice va r.nds.length vc) (r.nds.map Nd.q) ∧ Kp w w1) := ⟨q1, kp_trans HF.out.2.2.2.2 q2⟩
          clear q1 q2
          go_wp2_with fail
          refine Calls.mono (seen_compile HF.out.1 HF.out.2.1 (H1.out.1.kp (kp_alloc _ _)) false) ?_
          rw [HF.out.2.2.1]
          rintro e w2 ⟨ca, cap, rfl, q1, q2⟩
          have hlen : C.length = 3 * i - 1 := HF.out.2.2.2.1.len
          obtain ⟨N, hN⟩ : ∃ N, C.length = N := ⟨_, rfl⟩
          simp only at q1 ⊢
          rw [hN] at q1
          rw [hN]
          have H2 : Hid (Kp w w2 ∧ Cd w2 (.slice ca N cap) C ∧ C.length = N) := ⟨kp_trans (kp_trans H1.out.2 (kp_alloc _ _)) q2, q1, hN⟩
          obtain ⟨T, hT⟩ : ∃ T : Nat, 3 * i = T := ⟨_, rfl⟩
          have t0 : 3 * (i : Int) = (T : Int) := by omega
          have t1 : (T : Int) - 1 = (N : Int) := by omega
          clear q1 q2 hlen hN hT
          obtain ⟨f, hf⟩ : ∃ f, foldsB r.cs false = f := ⟨_, rfl⟩
          rw [hf]
          clear hf
          go_wp2_with fail
          have HP : Hid (PgBox w2.heap.size (.slice ca N cap) (.int .i64 0) (.bool f) (w2.alloc (.cells #[.slice ca N cap, .int .i64 0, .bool f] 32)) ∧ Cd (w2.alloc (.cells #[.slice ca N cap, .int .i64 0, .bool f] 32)) (.slice ca N cap) C ∧ Kp w (w2.alloc (.cells #[.slice ca N cap, .int .i64 0, .bool f] 32))) := ⟨alloc_new w2 _, H2.out.2.1.kp (kp_alloc _ _), kp_trans H2.out.1 (kp_alloc _ _)⟩
          obtain ⟨pb, hpb⟩ : ∃ pb, w2.heap.size = pb := ⟨_, rfl⟩
          rw [hpb] at HP ⊢
          clear hpb
          generalize (w2.alloc (.cells #[.slice ca N cap, .int .i64 0, .bool f] 32)) = wp at HP ⊢
          obtain ⟨dl0, hla, hlc⟩ := HF.out.2.2.2.1.la
          obtain ⟨b, o, rfl, hcl⟩ := HP.out.2.1.at_ hla
          obtain ⟨T3, hT3⟩ : ∃ T3 : Nat, 3 * i - 3 = T3 := ⟨_, rfl⟩
          obtain ⟨T2, hT2⟩ : ∃ T2 : Nat, 3 * i - 2 = T2 := ⟨_, rfl⟩
          obtain ⟨Mm, hMm⟩ : ∃ Mm : Nat, i - 1 = Mm := ⟨_, rfl⟩
          have t2 : (T : Int) - 2 = (T2 : Int) := by omega
          have t3 : (T : Int) - 3 = (T3 : Int) := by omega
          have t4 : (i : Int) - 1 = (Mm : Int) := by omega
          have cla : wp.cell? ⟨b, o + T3 * 8 + 1, none⟩ = some (.int .u8 (97 + (Mm : Int))) := by
            have := hcl 1 _ rfl
            rw [hT3, hlc, hMm] at this
            rw [this]; rfl
          have hT3N : T3 < N := by omega
          have hNc := HP.out.2.1.len.2
          unfold maxLen at hNc
          obtain ⟨⟨g0, g1, g2⟩, _⟩ := HP.out.1.cells
          have HMm : Hid (i - 1 = Mm ∧ 3 * i - 2 = T2 ∧ AltF i C) := ⟨hMm, hT2, HF.out.2.2.2.1⟩
          clear hla hlc hcl hT3 hT2 hMm
          go_loopw [11] (fun v11 wr => ∃ j : Nat, j ≤ Mm ∧ v11 = .int .i64 j ∧ wr = wp) (fun v11 _ => Mm - (intOf v11).toNat)
          case atStart => exact ⟨0, Nat.zero_le _, rfl, rfl⟩
          case round =>
            obtain ⟨j, hj, rfl, rfl⟩ := hrel
            by_cases hlj : j < Mm
            · have dj : decide ((j : Int) < (Mm : Int)) = true := decide_eq_true (by omega)
              obtain ⟨k, hk⟩ : ∃ k : Nat, 3 * j = k := ⟨_, rfl⟩
              obtain ⟨k1, hk1⟩ : ∃ k1 : Nat, k + 1 = k1 := ⟨_, rfl⟩
              obtain ⟨k2, hk2⟩ : ∃ k2 : Nat, k + 2 = k2 := ⟨_, rfl⟩
              obtain ⟨k3, hk3⟩ : ∃ k3 : Nat, k + 3 = k3 := ⟨_, rfl⟩
              have s0 : 3 * (j : Int) = (k : Int) := by omega
              have s1 : (k : Int) + 1 = (k1 : Int) := by omega
              have s2 : (k : Int) + 2 = (k2 : Int) := by omega
              have s3 : (k : Int) + 3 = (k3 : Int) := by omega
              have hjm : j < i - 1 := by have := HMm.out.1; omega
              have hb2 : k2 < N := by omega
              have hb1 : k1 < N := by omega
              have hb0 : k < N := by omega
              have hsp := HMm.out.2.2.sp j hjm
              obtain ⟨dby, hby, hbc⟩ := HMm.out.2.2.by_ j hjm
              have hjp := HMm.out.2.2.jp j hjm
              rw [hk] at hsp hby hjp
              rw [hk1] at hby
              rw [hk2, HMm.out.2.1] at hjp
              rw [hk3] at hsp
              have esp : splitI false k k3 = ⟨4, 0, zeroS, (k1 : Int), (k3 : Int)⟩ := by simp only [splitI, Bool.false_eq_true, if_false]; rw [s1]
              have ejp : jumpI T2 = ⟨5, 0, zeroS, (T2 : Int), 0⟩ := rfl
              rw [esp] at hsp
              rw [ejp] at hjp
              have cc := fun q1 q2 q3 q4 => (HP.out.2.1.cell8 (i := q1) (d := q2) q3 q4)
              have a0 := HP.out.2.1.cell8 hsp 0 _ rfl
              have a1 := HP.out.2.1.cell8 hsp 1 _ rfl
              have a2 := HP.out.2.1.cell8 hsp 2 _ rfl
              have a3 := HP.out.2.1.cell8 hsp 3 _ rfl
              have a4 := HP.out.2.1.cell8 hsp 4 _ rfl
              have a5 := HP.out.2.1.cell8 hsp 5 _ rfl
              have a6 := HP.out.2.1.cell8 hsp 6 _ rfl
              have a7 := HP.out.2.1.cell8 hsp 7 _ rfl
              have b1 := HP.out.2.1.cell8 hby 1 _ rfl
              have j0 := HP.out.2.1.cell8 hjp 0 _ rfl
              have j1 := HP.out.2.1.cell8 hjp 1 _ rfl
              have j2 := HP.out.2.1.cell8 hjp 2 _ rfl
              have j3 := HP.out.2.1.cell8 hjp 3 _ rfl
              have j4 := HP.out.2.1.cell8 hjp 4 _ rfl
              have j5 := HP.out.2.1.cell8 hjp 5 _ rfl
              have j6 := HP.out.2.1.cell8 hjp 6 _ rfl
              have j7 := HP.out.2.1.cell8 hjp 7 _ rfl
              rw [hbc] at b1
              simp only [zeroS, Nat.add_zero, Int.natCast_zero, Int.natCast_add, Int.cast_ofNat_Int] at a0 a1 a2 a3 a4 a5 a6 a7 b1 j0 j1 j2 j3 j4 j5 j6 j7
              have heq : ∀ w : World, (Op.equalIn 10000 39 (.agg #[.int .u8 4, .int .u8 0, .int .u64 0, .int .u64 0, .int .u64 0, .int .u64 0, .int .i64 k1, .int .i64 k3]) (.agg #[.int .u8 4, .int .u8 0, .int .u64 0, .int .u64 0, .int .u64 0, .int .u64 0, .int .i64 k1, .int .i64 k3])).run Tryz.prog w = .ok true w := fun w => (eq_inst ⟨4, 0, zeroS, k1, k3⟩ ⟨4, 0, zeroS, k1, k3⟩ w).trans (by simp [insB])
              have heq2 : ∀ w : World, (Op.equalIn 10000 39 (.agg #[.int .u8 5, .int .u8 0, .int .u64 0, .int .u64 0, .int .u64 0, .int .u64 0, .int .i64 T2, .int .i64 0]) (.agg #[.int .u8 5, .int .u8 0, .int .u64 0, .int .u64 0, .int .u64 0, .int .u64 0, .int .i64 T2, .int .i64 0])).run Tryz.prog w = .ok true w := fun w => (eq_inst ⟨5, 0, zeroS, T2, 0⟩ ⟨5, 0, zeroS, T2, 0⟩ w).trans (by simp [insB])
              clear hsp hby hbc hjp esp ejp hk hk1 hk2 hk3 cc
              go_wp2_with fail
              go_roundw
              case rel => exact ⟨j + 1, by omega, by go_num, by simp⟩
              case measure => simp only [intOf]; omega
            · have hjM : j = Mm := by omega
              have dj : decide ((j : Int) < (Mm : Int)) = false := decide_eq_false (by omega)
              clear hjM
              go_wp2_with fail
              refine Calls.mono (qknown_any (HG.out.1.kp HP.out.2.2)) ?_
              rintro e w3 ⟨rfl, q⟩
              have HQ : Hid (Kp w w3) := kp_trans HP.out.2.2 q
              replace g0 := kp_cell q g0
              replace g1 := kp_cell q g1
              replace g2 := kp_cell q g2
              replace cla := kp_cell q cla
              clear q
              go_wp2_with fail
              go_ret
              exact ⟨rfl, HQ.out⟩
end
end Go.Proofs.YtlgemficalcghaaGreat
