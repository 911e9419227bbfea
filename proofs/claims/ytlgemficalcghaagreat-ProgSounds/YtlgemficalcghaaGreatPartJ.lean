/- Texts that the proof of the law stands on: PAlt, PForm, PSnd0, PSnd, PSnd2, PSnd3, PSounds. -/
import Derived.Test.YtlgemficalcghaaGreatPartI
import Derived.Lib.SmallJoins
import Derived.OpenShut
import Derived.Deep.Slices
import Derived.WalkKit
import Derived.ProofKit
import Derived.Deep.RegionHeld3
/- ProgAlt: the walk. -/
namespace Go.Proofs.YtlgemficalcghaaGreat
open Go.ChangeShapes Go.WideShapes Go.ChangeAt Go.RowKit
set_option linter.unusedVariables false
set_option linter.unusedSimpArgs false
theorem sA_len (i : Nat) : (sA i).length ≤ 3 * i := by
  induction i with
  | zero => simp [sA]
  | succ i ih =>
    simp only [sA]
    split
    · simp; omega
    · simp; omega
section
variable {w w1 : World}
theorem byte_str (w : World) (n : Int) (c : UInt8) (h : n = (c.toNat : Int)) : (convert 22 9 (.slice (some ⟨w.heap.size, 0, none⟩) 1 1)).run Tryz.prog (w.alloc (.cells #[.int .u8 n] 5)) = .ok (str [c]) (w.alloc (.cells #[.int .u8 n] 5)) :=
  run_convert_bytes_back (P := Tryz.prog) _ 22 9 5 ⟨w.heap.size, 0, none⟩ 1 [c] Tryz.underlying22 Tryz.underlying5 Tryz.underlying9 (fun j hj => by
    have hj0 : j = 0 := by simpa using hj
    subst hj0
    rw [Addr.add_lit, cell_at (alloc_new w _)]
    show some (Value.int .u8 n) = some (Value.int .u8 (c.toNat : Int))
    rw [h])
theorem Cd.cell8 {b o cap n : Nat} {C : List Ins} (h : Cd w (.slice (some ⟨b, o, none⟩) n cap) C) {i : Nat} {d : Ins} (hi : C[i]? = some d) (j : Nat) (u : Value) (hj : d.cells[j]? = some u) : w.cell? ⟨b, o + i * 8 + j, none⟩ = some u := by
  obtain ⟨b', o', e, q⟩ := h.at_ hi
  injection e with e
  injection e with e1 e2
  subst e1 e2
  exact q j u hj
/-- What is known of the code of so many branches. -/
structure AltF (M : Nat) (C : List Ins) : Prop where
  len : C.length = 3 * M - 1
  sp : ∀ i, i < M - 1 → C[3 * i]? = some (splitI false (3 * i) (3 * i + 3))
  by_ : ∀ i, i < M - 1 → ∃ d, C[3 * i + 1]? = some d ∧ d.c = 97 + i
  jp : ∀ i, i < M - 1 → C[3 * i + 2]? = some (jumpI (3 * M - 2))
  la : ∃ d, C[3 * M - 3]? = some d ∧ d.c = 97 + (M - 1)
theorem altC_f {M : Nat} {C : List Ins} (h : altC M C = true) : AltF M C := by
  simp only [altC, Bool.and_eq_true, decide_eq_true_eq, List.all_eq_true, List.mem_range] at h
  obtain ⟨⟨h1, h2⟩, h3⟩ := h
  refine ⟨h1, fun i hi => (h2 i hi).1.1, fun i hi => ?_, fun i hi => (h2 i hi).2, ?_⟩
  · obtain ⟨d, q1, q2⟩ := Option.map_eq_some_iff.1 (h2 i hi).1.2
    exact ⟨d, q1, q2⟩
  · obtain ⟨d, q1, q2⟩ := Option.map_eq_some_iff.1 h3
    exact ⟨d, q1, q2⟩
set_option maxHeartbeats 4000000 in
set_option maxRecDepth 100000 in
theorem alt_law (n : Nat) (hn : n < 256) (g : Gm w) : Calls Tryz.prog 3 #[.int .u8 n] w fun e w' => e = .returned (.bool true) ∧ Kp w w' := by
  obtain ⟨m, hm⟩ : ∃ m, n % 20 = m := ⟨_, rfl⟩
  have e1 : (n : Int) % 20 = (m : Int) := by omega
  obtain ⟨M, hM⟩ : ∃ M, m + 1 = M := ⟨_, rfl⟩
  have e2 : 1 + (m : Int) = (M : Int) := by omega
  have hM20 : 1 ≤ M ∧ M ≤ 20 := by omega
  have hch := chAlt_all ⟨m, by omega⟩
  simp only [hM] at hch
  have HG : Hid (Gm w ∧ chAlt M = true) := ⟨g, hch⟩
  clear g hm hM hch
  go_enter Tryz.func3, Tryz.ntmps3
  go_wp2_with fail
  go_loopw [4, 5] (fun v4 v5 wr => ∃ i : Nat, i ≤ M ∧ v5 = .int .i64 i ∧ v4 = str (sA i) ∧ Hid (Kp w wr)) (fun _ v5 _ => M - (intOf v5).toNat)
  case atStart => exact ⟨0, Nat.zero_le _, rfl, rfl, Below.refl _ _⟩
  case round =>
    obtain ⟨i, hi, rfl, rfl, HK⟩ := hrel
    by_cases hlt : i < M
    · have dl : decide ((i : Int) < (M : Int)) = true := decide_eq_true (by omega)
      obtain ⟨c, hc⟩ : ∃ c, (97 + i).toUInt8 = c := ⟨_, rfl⟩
      have ec : 97 + (i : Int) = (c.toNat : Int) := by rw [← hc]; simp [Nat.toUInt8]; omega
      have hl := sA_len i
      have hcv := fun W => byte_str W (97 + (i : Int)) c ec
      have HL : Hid ((sA (i + 1)).length ≤ 1000) := by have := sA_len (i + 1); show _ ≤ _; omega
      by_cases h0 : 0 < i
      · have d0 : decide ((0 : Int) < (i : Int)) = true := decide_eq_true (by omega)
        obtain ⟨y, hy⟩ : ∃ y, sA i ++ [92, 124] = y := ⟨_, rfl⟩
        have hA1 := cat_run hy (by rw [← hy]; simp; omega)
        obtain ⟨z, hz⟩ : ∃ z, sA (i + 1) = z := ⟨_, rfl⟩
        have hA2 := cat_run (show y ++ [c] = z from by rw [← hy, ← hz, ← hc]; simp [sA, h0]) (by rw [← hz]; have := HL.out; omega)
        have HZ : Hid (sA (i + 1) = z) := hz
        clear hy hz hc ec hl
        go_wp2_with fail
        go_roundw
        case rel => exact ⟨i + 1, by omega, by go_num, by rw [HZ.out], kp_trans HK.out (kp_alloc _ _)⟩
        case measure => simp only [intOf]; omega
      · have hi0 : i = 0 := by omega
        subst hi0
        have hA2 := cat_run (show ([] : List UInt8) ++ [c] = [c] from rfl) (by simp)
        have HZ : Hid (sA (0 + 1) = [c]) := by rw [← hc]; rfl
        have hs0 : sA 0 = [] := rfl
        rw [hs0]
        clear hc ec hl
        simp only [Int.natCast_zero, Int.add_zero] at hcv dl ⊢
        go_wp2_with fail
        go_roundw
        case rel => exact ⟨0 + 1, by omega, by go_num, by rw [HZ.out], kp_trans HK.out (kp_alloc _ _)⟩
        case measure => simp only [intOf]; omega
    · have hiM : i = M := by omega
      subst hiM
      have dl : decide ((i : Int) < (i : Int)) = false := by simp
      have hch := HG.out.2
      unfold chAlt at hch
      cases hr : resF (sA i) with
      | none => rw [hr] at hch; cases hch
      | some r =>
        rw [hr] at hch
        simp only [Bool.and_eq_true, beq_iff_eq] at hch
        obtain ⟨⟨ho, hcs⟩, hpx⟩ := hch
        cases hp : progF r.t with
        | none => rw [hp] at hpx; cases hpx
        | some x =>
          rw [hp] at hpx
          simp only [Bool.and_eq_true, beq_iff_eq] at hpx
          obtain ⟨hx2, hal⟩ := hpx
          obtain ⟨C, rd⟩ := x
          simp only at hx2 hal
          subst hx2
          have HF : Hid (resF (sA i) = some r ∧ okR r = true ∧ progF r.t = some (C, 0) ∧ AltF i C ∧ Kp w wr) := ⟨hr, ho, hp, altC_f hal, HK.out⟩
          clear hr ho hp hal hcs
          go_wp2_with fail
          refine Calls.mono (seen_parse HF.out.1 (HG.out.1.kp HF.out.2.2.2.2)) ?_
          rintro e w1 ⟨va, vc, rfl, q1, q2⟩
          have H1 : Hid (Pt w1 (.slice va r.nds.length vc) (r.nds.map Nd.q) ∧ Kp w w1) := ⟨q1, kp_trans HF.out.2.2.2.2 q2⟩
          clear q1 q2
          go_wp2_with fail
          refine Calls.mono (seen_compile HF.out.1 HF.out.2.1 (H1.out.1.kp (kp_alloc _ _)) false) ?_
          rw [HF.out.2.2.1]
          rintro e w2 ⟨ca, cap, rfl, q1, q2⟩
          have hlen : C.length = 3 * i - 1 := HF.out.2.2.2.1.len
          obtain ⟨N, hN⟩ : ∃ N, C.length = N := ⟨_, rfl⟩
          simp only at q1 ⊢
          rw [hN] at q1
          rw [hN]
          have H2 : Hid (Kp w w2 ∧ Cd w2 (.slice ca N cap) C ∧ C.length = N) := ⟨kp_trans (kp_trans H1.out.2 (kp_alloc _ _)) q2, q1, hN⟩
          obtain ⟨T, hT⟩ : ∃ T : Nat, 3 * i = T := ⟨_, rfl⟩
          have t0 : 3 * (i : Int) = (T : Int) := by omega
          have t1 : (T : Int) - 1 = (N : Int) := by omega
          clear q1 q2 hlen hN hT
          obtain ⟨f, hf⟩ : ∃ f, foldsB r.cs false = f := ⟨_, rfl⟩
          rw [hf]
          clear hf
          go_wp2_with fail
          have HP : Hid (PgBox w2.heap.size (.slice ca N cap) (.int .i64 0) (.bool f) (w2.alloc (.cells #[.slice ca N cap, .int .i64 0, .bool f] 32)) ∧ Cd (w2.alloc (.cells #[.slice ca N cap, .int .i64 0, .bool f] 32)) (.slice ca N cap) C ∧ Kp w (w2.alloc (.cells #[.slice ca N cap, .int .i64 0, .bool f] 32))) := ⟨alloc_new w2 _, H2.out.2.1.kp (kp_alloc _ _), kp_trans H2.out.1 (kp_alloc _ _)⟩
          obtain ⟨pb, hpb⟩ : ∃ pb, w2.heap.size = pb := ⟨_, rfl⟩
          rw [hpb] at HP ⊢
          clear hpb
          generalize (w2.alloc (.cells #[.slice ca N cap, .int .i64 0, .bool f] 32)) = wp at HP ⊢
          obtain ⟨dl0, hla, hlc⟩ := HF.out.2.2.2.1.la
          obtain ⟨b, o, rfl, hcl⟩ := HP.out.2.1.at_ hla
          obtain ⟨T3, hT3⟩ : ∃ T3 : Nat, 3 * i - 3 = T3 := ⟨_, rfl⟩
          obtain ⟨T2, hT2⟩ : ∃ T2 : Nat, 3 * i - 2 = T2 := ⟨_, rfl⟩
          obtain ⟨Mm, hMm⟩ : ∃ Mm : Nat, i - 1 = Mm := ⟨_, rfl⟩
          have t2 : (T : Int) - 2 = (T2 : Int) := by omega
          have t3 : (T : Int) - 3 = (T3 : Int) := by omega
          have t4 : (i : Int) - 1 = (Mm : Int) := by omega
          have cla : wp.cell? ⟨b, o + T3 * 8 + 1, none⟩ = some (.int .u8 (97 + (Mm : Int))) := by
            have := hcl 1 _ rfl
            rw [hT3, hlc, hMm] at this
            rw [this]; rfl
          have hT3N : T3 < N := by omega
          have hNc := HP.out.2.1.len.2
          unfold maxLen at hNc
          obtain ⟨⟨g0, g1, g2⟩, _⟩ := HP.out.1.cells
          have HMm : Hid (i - 1 = Mm ∧ 3 * i - 2 = T2 ∧ AltF i C) := ⟨hMm, hT2, HF.out.2.2.2.1⟩
          clear hla hlc hcl hT3 hT2 hMm
          go_loopw [11] (fun v11 wr => ∃ j : Nat, j ≤ Mm ∧ v11 = .int .i64 j ∧ wr = wp) (fun v11 _ => Mm - (intOf v11).toNat)
          case atStart => exact ⟨0, Nat.zero_le _, rfl, rfl⟩
          case round =>
            obtain ⟨j, hj, rfl, rfl⟩ := hrel
            by_cases hlj : j < Mm
            · have dj : decide ((j : Int) < (Mm : Int)) = true := decide_eq_true (by omega)
              obtain ⟨k, hk⟩ : ∃ k : Nat, 3 * j = k := ⟨_, rfl⟩
              obtain ⟨k1, hk1⟩ : ∃ k1 : Nat, k + 1 = k1 := ⟨_, rfl⟩
              obtain ⟨k2, hk2⟩ : ∃ k2 : Nat, k + 2 = k2 := ⟨_, rfl⟩
              obtain ⟨k3, hk3⟩ : ∃ k3 : Nat, k + 3 = k3 := ⟨_, rfl⟩
              have s0 : 3 * (j : Int) = (k : Int) := by omega
              have s1 : (k : Int) + 1 = (k1 : Int) := by omega
              have s2 : (k : Int) + 2 = (k2 : Int) := by omega
              have s3 : (k : Int) + 3 = (k3 : Int) := by omega
              have hjm : j < i - 1 := by have := HMm.out.1; omega
              have hb2 : k2 < N := by omega
              have hb1 : k1 < N := by omega
              have hb0 : k < N := by omega
              have hsp := HMm.out.2.2.sp j hjm
              obtain ⟨dby, hby, hbc⟩ := HMm.out.2.2.by_ j hjm
              have hjp := HMm.out.2.2.jp j hjm
              rw [hk] at hsp hby hjp
              rw [hk1] at hby
              rw [hk2, HMm.out.2.1] at hjp
              rw [hk3] at hsp
              have esp : splitI false k k3 = ⟨4, 0, zeroS, (k1 : Int), (k3 : Int)⟩ := by simp only [splitI, Bool.false_eq_true, if_false]; rw [s1]
              have ejp : jumpI T2 = ⟨5, 0, zeroS, (T2 : Int), 0⟩ := rfl
              rw [esp] at hsp
              rw [ejp] at hjp
              have cc := fun q1 q2 q3 q4 => (HP.out.2.1.cell8 (i := q1) (d := q2) q3 q4)
              have a0 := HP.out.2.1.cell8 hsp 0 _ rfl
              have a1 := HP.out.2.1.cell8 hsp 1 _ rfl
              have a2 := HP.out.2.1.cell8 hsp 2 _ rfl
              have a3 := HP.out.2.1.cell8 hsp 3 _ rfl
              have a4 := HP.out.2.1.cell8 hsp 4 _ rfl
              have a5 := HP.out.2.1.cell8 hsp 5 _ rfl
              have a6 := HP.out.2.1.cell8 hsp 6 _ rfl
              have a7 := HP.out.2.1.cell8 hsp 7 _ rfl
              have b1 := HP.out.2.1.cell8 hby 1 _ rfl
              have j0 := HP.out.2.1.cell8 hjp 0 _ rfl
              have j1 := HP.out.2.1.cell8 hjp 1 _ rfl
              have j2 := HP.out.2.1.cell8 hjp 2 _ rfl
              have j3 := HP.out.2.1.cell8 hjp 3 _ rfl
              have j4 := HP.out.2.1.cell8 hjp 4 _ rfl
              have j5 := HP.out.2.1.cell8 hjp 5 _ rfl
              have j6 := HP.out.2.1.cell8 hjp 6 _ rfl
              have j7 := HP.out.2.1.cell8 hjp 7 _ rfl
              rw [hbc] at b1
              simp only [zeroS, Nat.add_zero, Int.natCast_zero, Int.natCast_add, Int.cast_ofNat_Int] at a0 a1 a2 a3 a4 a5 a6 a7 b1 j0 j1 j2 j3 j4 j5 j6 j7
              have heq : ∀ w : World, (Op.equalIn 10000 39 (.agg #[.int .u8 4, .int .u8 0, .int .u64 0, .int .u64 0, .int .u64 0, .int .u64 0, .int .i64 k1, .int .i64 k3]) (.agg #[.int .u8 4, .int .u8 0, .int .u64 0, .int .u64 0, .int .u64 0, .int .u64 0, .int .i64 k1, .int .i64 k3])).run Tryz.prog w = .ok true w := fun w => (eq_inst ⟨4, 0, zeroS, k1, k3⟩ ⟨4, 0, zeroS, k1, k3⟩ w).trans (by simp [insB])
              have heq2 : ∀ w : World, (Op.equalIn 10000 39 (.agg #[.int .u8 5, .int .u8 0, .int .u64 0, .int .u64 0, .int .u64 0, .int .u64 0, .int .i64 T2, .int .i64 0]) (.agg #[.int .u8 5, .int .u8 0, .int .u64 0, .int .u64 0, .int .u64 0, .int .u64 0, .int .i64 T2, .int .i64 0])).run Tryz.prog w = .ok true w := fun w => (eq_inst ⟨5, 0, zeroS, T2, 0⟩ ⟨5, 0, zeroS, T2, 0⟩ w).trans (by simp [insB])
              clear hsp hby hbc hjp esp ejp hk hk1 hk2 hk3 cc
              go_wp2_with fail
              go_roundw
              case rel => exact ⟨j + 1, by omega, by go_num, by simp⟩
              case measure => simp only [intOf]; omega
            · have hjM : j = Mm := by omega
              have dj : decide ((j : Int) < (Mm : Int)) = false := decide_eq_false (by omega)
              clear hjM
              go_wp2_with fail
              refine Calls.mono (qknown_any (HG.out.1.kp HP.out.2.2)) ?_
              rintro e w3 ⟨rfl, q⟩
              have HQ : Hid (Kp w w3) := kp_trans HP.out.2.2 q
              replace g0 := kp_cell q g0
              replace g1 := kp_cell q g1
              replace g2 := kp_cell q g2
              replace cla := kp_cell q cla
              clear q
              go_wp2_with fail
              go_ret
              exact ⟨rfl, HQ.out⟩
end
end Go.Proofs.YtlgemficalcghaaGreat
/- A program that is handed in: its code can be read, its numbers fit. -/
namespace Go.Proofs.YtlgemficalcghaaGreat
open Go.ChangeShapes Go.WideShapes Go.ChangeAt Go.RowKit
set_option linter.unusedVariables false
set_option linter.unusedSimpArgs false
set_option maxRecDepth 100000
structure InsOk (d : Ins) : Prop where
  op : d.op < 256
  x : -9223372036854775808 ≤ d.x ∧ d.x ≤ 9223372036854775807
  y : -9223372036854775808 ≤ d.y ∧ d.y ≤ 9223372036854775807
theorem fU8 {a : Int} (w : (Lit.int .u8 a).wf = true) : 0 ≤ a ∧ a < 256 := by
  have h : (decide (IntKind.u8.min ≤ a) && decide (a ≤ IntKind.u8.max)) = true := w
  rw [Bool.and_eq_true, decide_eq_true_eq, decide_eq_true_eq] at h
  have e1 : IntKind.u8.min = 0 := by decide
  have e2 : IntKind.u8.max = 255 := by decide
  omega
theorem fU64 {a : Int} (w : (Lit.int .u64 a).wf = true) : 0 ≤ a := by
  have h : (decide (IntKind.u64.min ≤ a) && decide (a ≤ IntKind.u64.max)) = true := w
  rw [Bool.and_eq_true, decide_eq_true_eq, decide_eq_true_eq] at h
  have e1 : IntKind.u64.min = 0 := by decide
  omega
theorem fI64 {a : Int} (w : (Lit.int .i64 a).wf = true) : -9223372036854775808 ≤ a ∧ a ≤ 9223372036854775807 := by
  have h : (decide (IntKind.i64.min ≤ a) && decide (a ≤ IntKind.i64.max)) = true := w
  rw [Bool.and_eq_true, decide_eq_true_eq, decide_eq_true_eq] at h
  have e1 : IntKind.i64.min = -9223372036854775808 := by decide
  have e2 : IntKind.i64.max = 9223372036854775807 := by decide
  omega
theorem underInst : (Tryz.prog.underlying 39).map (fun | .struct fs => fs.toList.map (fun f => (f.type, f.offset)) | _ => []) = some [(5, 0), (5, 1), (37, 2), (3, 6), (3, 7)] := by kernel_rfl
theorem underProg : (Tryz.prog.underlying 32).map (fun | .struct fs => fs.toList.map (fun f => (f.type, f.offset)) | _ => []) = some [(30, 0), (3, 1), (4, 2)] := by kernel_rfl
theorem underSetA : Tryz.prog.underlying 37 = some (.array 4 35) := by kernel_rfl
theorem cInst : Tryz.prog.cellsOf 39 = 8 := by kernel_rfl
theorem cProg : Tryz.prog.cellsOf 32 = 3 := by kernel_rfl
theorem cUB : Tryz.prog.cellsOf 5 = 1 := by kernel_rfl
theorem cInt : Tryz.prog.cellsOf 3 = 1 := by kernel_rfl
theorem cBool : Tryz.prog.cellsOf 4 = 1 := by kernel_rfl
theorem cWord : Tryz.prog.cellsOf 35 = 1 := by kernel_rfl
theorem cSet : Tryz.prog.cellsOf 37 = 4 := by kernel_rfl
theorem cInsts : Tryz.prog.cellsOf 30 = 1 := by kernel_rfl
theorem inst_cells {H : Type} {enc : TypeId × Value → H} {W : World} {fuel : Nat} {cs : List Value} {x : DataW H × List MemPlace} (h : DataW.trod enc Tryz.prog W 0 (fun _ => true) true fuel 39 cs = some x) :
    ∃ d : Ins, cs = d.cells ∧ InsOk d := by
  have hu := underInst
  rw [Option.map_eq_some_iff] at hu
  obtain ⟨ty, hty, hfs⟩ := hu
  match ty, hty, hfs with
  | .struct fs, hty, hfs =>
    simp only at hfs
    obtain ⟨xs, n, _, rfl, hcl, hxl, hf⟩ := DataW.trod_struct hty h
    rw [cInst] at hcl
    match cs, hcl with
    | [k0, k1, k2, k3, k4, k5, k6, k7], _ =>
      obtain ⟨fl⟩ := fs
      match fl, hfs with
      | [f0, f1, f2, f3, f4], hfs =>
        simp only [List.map_cons, List.map_nil, List.cons.injEq, Prod.mk.injEq, and_true] at hfs
        obtain ⟨⟨t0, o0⟩, ⟨t1, o1⟩, ⟨t2, o2⟩, ⟨t3, o3⟩, ⟨t4, o4⟩⟩ := hfs
        match xs, hxl with
        | [y0, y1, y2, y3, y4], _ =>
          have g0 := hf 0 f0 rfl
          have g1 := hf 1 f1 rfl
          have g2 := hf 2 f2 rfl
          have g3 := hf 3 f3 rfl
          have g4 := hf 4 f4 rfl
          rw [t0, o0, cUB] at g0
          rw [t1, o1, cUB] at g1
          rw [t2, o2, cSet] at g2
          rw [t3, o3, cInt] at g3
          rw [t4, o4, cInt] at g4
          obtain ⟨a0, e0, r0, w0⟩ := DataW.trod_int Tryz.underlying5 g0
          obtain ⟨a1, e1, r1, w1⟩ := DataW.trod_int Tryz.underlying5 g1
          obtain ⟨zs, m, _, _, _, hzl, hz⟩ := DataW.trod_array underSetA g2
          obtain ⟨a6, e6, r6, w6⟩ := DataW.trod_int Tryz.underlying3 g3
          obtain ⟨a7, e7, r7, w7⟩ := DataW.trod_int Tryz.underlying3 g4
          match zs, hzl with
          | [z0, z1, z2, z3], _ =>
            have q0 := hz 0 (by omega)
            have q1 := hz 1 (by omega)
            have q2 := hz 2 (by omega)
            have q3 := hz 3 (by omega)
            rw [cWord] at q0 q1 q2 q3
            obtain ⟨b0, c0, _, v0⟩ := DataW.trod_int Tryz.underlying35 q0
            obtain ⟨b1, c1, _, v1⟩ := DataW.trod_int Tryz.underlying35 q1
            obtain ⟨b2, c2, _, v2⟩ := DataW.trod_int Tryz.underlying35 q2
            obtain ⟨b3, c3, _, v3⟩ := DataW.trod_int Tryz.underlying35 q3
            simp at e0 e1 e6 e7 c0 c1 c2 c3
            have u0 := fU8 w0
            have u1 := fU8 w1
            refine ⟨⟨a0.toNat, a1.toNat, ⟨b0.toNat, b1.toNat, b2.toNat, b3.toNat⟩, a6, a7⟩, ?_, ⟨by show a0.toNat < 256; omega, fI64 w6, fI64 w7⟩⟩
            simp only [Ins.cells, Int.toNat_of_nonneg u0.1, Int.toNat_of_nonneg u1.1, Int.toNat_of_nonneg (fU64 v0), Int.toNat_of_nonneg (fU64 v1), Int.toNat_of_nonneg (fU64 v2), Int.toNat_of_nonneg (fU64 v3)]
            rw [e0, e1, e6, e7, c0, c1, c2, c3]
theorem insts_cells {H : Type} {enc : TypeId × Value → H} {W : World} {fuel : Nat} {v : Value} {x : DataW H × List MemPlace} (h : DataW.trod enc Tryz.prog W 0 (fun _ => true) true fuel 30 [v] = some x) :
    ∃ C : List Ins, Cd W v C ∧ ∀ d ∈ C, InsOk d := by
  rcases Deep.open_slice Tryz.underlying30 h with ⟨hcs, hx⟩ | ⟨a, len, cap, m, n, D, Pl, hcs, _, hl, hm, hmm, hx, hcell⟩
  · simp at hcs
    subst hcs
    exact ⟨[], ⟨none, 0, rfl, by simp, by simp [maxLen], fun i d hi => by cases hi⟩, fun d hd => by cases hd⟩
  · simp at hcs
    subst hcs
    simp only [if_true] at hmm
    subst hmm
    rw [cInst] at hcell
    have each : ∀ i, i < m → ∃ d : Ins, (∀ c j, d.cells[j]? = some c → W.cell? ((a.add (i * 8)).add j) = some c) ∧ InsOk d := fun i hi => by
      obtain ⟨cs', h1, h2⟩ := hcell i hi
      obtain ⟨d, e, r1⟩ := inst_cells h2
      obtain ⟨_, hlen, hc⟩ := World.cells?_some h1
      refine ⟨d, fun c j hj => ?_, r1⟩
      rw [hc j (by have := (List.getElem?_eq_some_iff.1 hj).1; simpa [Ins.cells] using this), e]; exact hj
    haveI : Inhabited Ins := ⟨{ op := 0 }⟩
    obtain ⟨F, hF⟩ := Deep.choose_lt each
    refine ⟨(List.range len).map F, ⟨some a, m, by simp, by simpa using hl, hm, fun i d hi => ?_⟩, fun d hd => ?_⟩
    · simp only [List.getElem?_map, Option.map_eq_some_iff] at hi
      obtain ⟨k, hk, rfl⟩ := hi
      obtain ⟨hlt, hk⟩ := List.getElem?_eq_some_iff.1 hk
      simp at hk hlt
      subst hk
      obtain ⟨b, off, spot⟩ := a
      have hspot : spot = none := by
        have := (hF 0 (by omega)).1 _ 0 rfl
        simpa [Addr.add] using World.cell?_spot this
      subst hspot
      refine ⟨b, off, rfl, fun j u hj => ?_⟩
      have := (hF i (by omega)).1 u j hj
      rw [Addr.add_lit, Addr.add_lit] at this
      exact this
    · obtain ⟨k, hk, rfl⟩ := List.mem_map.1 hd
      rw [List.mem_range] at hk
      exact (hF k (by omega)).2
theorem prog_form {H : Type} {enc : TypeId × Value → H} {W : World} {base : Nat} {v : Value} {d : DataW H} {p : List MemPlace} (hval : Value.okWide Tryz.prog W .any base 32 v) (h : DataW.Trod enc Tryz.prog W 0 (fun _ => true) true 32 v d p) :
    ∃ (a : Option Addr) (N cap : Nat) (r : Int) (f : Bool) (C : List Ins), v = .agg #[.slice a N cap, .int .i64 r, .bool f] ∧ Cd W (.slice a N cap) C ∧ (∀ d ∈ C, InsOk d) ∧ (-9223372036854775808 ≤ r ∧ r ≤ 9223372036854775807) := by
  have hu := underProg
  rw [Option.map_eq_some_iff] at hu
  obtain ⟨ty, hty, hfs⟩ := hu
  match ty, hty, hfs with
  | .struct fs, hty, hfs =>
    simp only at hfs
    obtain ⟨cs, rfl, hsz⟩ := okWide_struct hty hval
    obtain ⟨fuel, hf0⟩ := h
    obtain ⟨xs, n, _, _, hcl, hxl, hf⟩ := DataW.trod_struct hty hf0
    obtain ⟨cl⟩ := cs
    rw [cProg] at hcl
    match cl, hcl with
    | [k0, k1, k2], _ =>
      obtain ⟨fl⟩ := fs
      match fl, hfs with
      | [f0, f1, f2], hfs =>
        simp only [List.map_cons, List.map_nil, List.cons.injEq, Prod.mk.injEq, and_true] at hfs
        obtain ⟨⟨t0, o0⟩, ⟨t1, o1⟩, ⟨t2, o2⟩⟩ := hfs
        match xs, hxl with
        | [y0, y1, y2], _ =>
          have g0 := hf 0 f0 rfl
          have g1 := hf 1 f1 rfl
          have g2 := hf 2 f2 rfl
          rw [t0, o0, cInsts] at g0
          rw [t1, o1, cInt] at g1
          rw [t2, o2, cBool] at g2
          have g0' : DataW.trod enc Tryz.prog W 0 (fun _ => true) true n 30 [k0] = some y0 := g0
          obtain ⟨C, hC, hok⟩ := insts_cells g0'
          obtain ⟨a1, e1, r1, w1⟩ := DataW.trod_int Tryz.underlying3 g1
          obtain ⟨f, e2, r2⟩ := DataW.trod_bool Tryz.underlying4 g2
          simp [Value.cells] at e1 e2
          obtain ⟨a, cap, e, _⟩ := id hC
          subst e e1 e2
          exact ⟨a, C.length, cap, a1, f, C, rfl, hC, hok, fI64 w1⟩
end Go.Proofs.YtlgemficalcghaaGreat
/- Is an instruction fit: both texts. -/
namespace Go.Proofs.YtlgemficalcghaaGreat
open Go.ChangeShapes Go.WideShapes Go.ChangeAt Go.RowKit
set_option linter.unusedVariables false
set_option linter.unusedSimpArgs false
def plB (x n : Int) : Bool := decide (0 ≤ x) && decide (x < n)
def fitD (N : Nat) (r : Int) (d : Ins) : Bool :=
  if d.op = 4 then plB d.x N && plB d.y N else if d.op = 5 then plB d.x N else if d.op = 6 then plB d.x 22 else if d.op = 7 then plB d.x 10 else if d.op = 12 ∨ d.op = 13 then plB d.x r else decide (1 ≤ d.op ∧ d.op ≤ 14)
section
variable {w w1 : World}
theorem gbelow_any (x n : Int) (w : World) : Calls Tryz.prog 40 #[.int .i64 x, .int .i64 n] w fun e w' => e = .returned (.bool (plB x n)) ∧ w' = w := by
  unfold plB
  cases h : decide (0 ≤ x)
  · go_enter Tryz.func40, Tryz.ntmps40
    go_wp2_with fail
    go_ret
    exact ⟨rfl, rfl⟩
  · go_enter Tryz.func40, Tryz.ntmps40
    go_wp2_with fail
    go_ret
    exact ⟨rfl, rfl⟩
theorem dplace_any (x n : Int) (w : World) : Calls Tryz.prog 34 #[.int .i64 x, .int .i64 n] w fun e w' => e = .returned (.bool (plB x n)) ∧ w' = w := by
  unfold plB
  cases h : decide (0 ≤ x)
  · go_enter Tryz.func34, Tryz.ntmps34
    go_wp2_with fail
    go_ret
    exact ⟨rfl, rfl⟩
  · go_enter Tryz.func34, Tryz.ntmps34
    go_wp2_with fail
    go_ret
    exact ⟨rfl, rfl⟩
set_option maxHeartbeats 4000000 in
set_option maxRecDepth 100000 in
theorem gfits_any (N : Nat) (r : Int) (d : Ins) (w : World) : Calls Tryz.prog 33 #[.agg #[.int .i64 N, .int .i64 r], d.val] w fun e w' => e = .returned (.bool (fitD N r d)) ∧ Kp w w' := by
  obtain ⟨op, c, ⟨sa, sb, sc, sd⟩, x, y⟩ := d
  unfold Ins.val
  have hop : op = 0 ∨ op = 1 ∨ op = 2 ∨ op = 3 ∨ op = 8 ∨ op = 9 ∨ op = 10 ∨ op = 11 ∨ op = 14 ∨ op = 4 ∨ op = 5 ∨ op = 6 ∨ op = 7 ∨ op = 12 ∨ op = 13 ∨ 14 < op := by omega
  rcases hop with rfl | rfl | rfl | rfl | rfl | rfl | rfl | rfl | rfl | rfl | rfl | rfl | rfl | rfl | rfl | hop
  · go_enter Tryz.func33, Tryz.ntmps33
    go_wp2_with fail
    go_ret
    exact ⟨rfl, kp_trans (kp_alloc _ _) (kp_alloc _ _)⟩
  · go_enter Tryz.func33, Tryz.ntmps33
    go_wp2_with fail
    go_ret
    exact ⟨rfl, kp_trans (kp_alloc _ _) (kp_alloc _ _)⟩
  · go_enter Tryz.func33, Tryz.ntmps33
    go_wp2_with fail
    go_ret
    exact ⟨rfl, kp_trans (kp_alloc _ _) (kp_alloc _ _)⟩
  · go_enter Tryz.func33, Tryz.ntmps33
    go_wp2_with fail
    go_ret
    exact ⟨rfl, kp_trans (kp_alloc _ _) (kp_alloc _ _)⟩
  · go_enter Tryz.func33, Tryz.ntmps33
    go_wp2_with fail
    go_ret
    exact ⟨rfl, kp_trans (kp_alloc _ _) (kp_alloc _ _)⟩
  · go_enter Tryz.func33, Tryz.ntmps33
    go_wp2_with fail
    go_ret
    exact ⟨rfl, kp_trans (kp_alloc _ _) (kp_alloc _ _)⟩
  · go_enter Tryz.func33, Tryz.ntmps33
    go_wp2_with fail
    go_ret
    exact ⟨rfl, kp_trans (kp_alloc _ _) (kp_alloc _ _)⟩
  · go_enter Tryz.func33, Tryz.ntmps33
    go_wp2_with fail
    go_ret
    exact ⟨rfl, kp_trans (kp_alloc _ _) (kp_alloc _ _)⟩
  · go_enter Tryz.func33, Tryz.ntmps33
    go_wp2_with fail
    go_ret
    exact ⟨rfl, kp_trans (kp_alloc _ _) (kp_alloc _ _)⟩
  · cases hp : plB x (N : Int)
    · have HP : Hid (plB x (N : Int) = false) := hp
      clear hp
      go_enter Tryz.func33, Tryz.ntmps33
      go_wp2_with fail
      refine Calls.mono (gbelow_any _ _ _) ?_
      rintro e x1 ⟨rfl, hw⟩
      rw [hw, HP.out]
      clear hw x1
      go_wp2_with fail
      go_ret
      exact ⟨by unfold fitD; rw [if_pos rfl]; simp only [HP.out]; rfl, kp_trans (kp_alloc _ _) (kp_alloc _ _)⟩
    · have HP : Hid (plB x (N : Int) = true) := hp
      clear hp
      go_enter Tryz.func33, Tryz.ntmps33
      go_wp2_with fail
      refine Calls.mono (gbelow_any _ _ _) ?_
      rintro e x1 ⟨rfl, hw⟩
      rw [hw, HP.out]
      clear hw x1
      go_wp2_with fail
      refine Calls.mono (gbelow_any _ _ _) ?_
      rintro e x1 ⟨rfl, hw⟩
      rw [hw]
      clear hw x1
      go_wp2_with fail
      go_ret
      exact ⟨by unfold fitD; rw [if_pos rfl]; simp only [HP.out]; rfl, kp_trans (kp_alloc _ _) (kp_alloc _ _)⟩
  · go_enter Tryz.func33, Tryz.ntmps33
    go_wp2_with fail
    refine Calls.mono (gbelow_any _ _ _) ?_
    rintro e x1 ⟨rfl, hw⟩
    rw [hw]
    clear hw x1
    go_wp2_with fail
    go_ret
    exact ⟨rfl, kp_trans (kp_alloc _ _) (kp_alloc _ _)⟩
  · go_enter Tryz.func33, Tryz.ntmps33
    go_wp2_with fail
    refine Calls.mono (gbelow_any _ _ _) ?_
    rintro e x1 ⟨rfl, hw⟩
    rw [hw]
    clear hw x1
    go_wp2_with fail
    go_ret
    exact ⟨rfl, kp_trans (kp_alloc _ _) (kp_alloc _ _)⟩
  · go_enter Tryz.func33, Tryz.ntmps33
    go_wp2_with fail
    refine Calls.mono (gbelow_any _ _ _) ?_
    rintro e x1 ⟨rfl, hw⟩
    rw [hw]
    clear hw x1
    go_wp2_with fail
    go_ret
    exact ⟨rfl, kp_trans (kp_alloc _ _) (kp_alloc _ _)⟩
  · go_enter Tryz.func33, Tryz.ntmps33
    go_wp2_with fail
    refine Calls.mono (gbelow_any _ _ _) ?_
    rintro e x1 ⟨rfl, hw⟩
    rw [hw]
    clear hw x1
    go_wp2_with fail
    go_ret
    exact ⟨rfl, kp_trans (kp_alloc _ _) (kp_alloc _ _)⟩
  · go_enter Tryz.func33, Tryz.ntmps33
    go_wp2_with fail
    refine Calls.mono (gbelow_any _ _ _) ?_
    rintro e x1 ⟨rfl, hw⟩
    rw [hw]
    clear hw x1
    go_wp2_with fail
    go_ret
    exact ⟨rfl, kp_trans (kp_alloc _ _) (kp_alloc _ _)⟩
  · have n1 : ((op : Int) == 1) = false := by simp; omega
    have m1 : decide ((op : Int) = 1) = false := by simp; omega
    have n2 : ((op : Int) == 2) = false := by simp; omega
    have m2 : decide ((op : Int) = 2) = false := by simp; omega
    have n3 : ((op : Int) == 3) = false := by simp; omega
    have m3 : decide ((op : Int) = 3) = false := by simp; omega
    have n4 : ((op : Int) == 4) = false := by simp; omega
    have m4 : decide ((op : Int) = 4) = false := by simp; omega
    have n5 : ((op : Int) == 5) = false := by simp; omega
    have m5 : decide ((op : Int) = 5) = false := by simp; omega
    have n6 : ((op : Int) == 6) = false := by simp; omega
    have m6 : decide ((op : Int) = 6) = false := by simp; omega
    have n7 : ((op : Int) == 7) = false := by simp; omega
    have m7 : decide ((op : Int) = 7) = false := by simp; omega
    have n8 : ((op : Int) == 8) = false := by simp; omega
    have m8 : decide ((op : Int) = 8) = false := by simp; omega
    have n9 : ((op : Int) == 9) = false := by simp; omega
    have m9 : decide ((op : Int) = 9) = false := by simp; omega
    have n10 : ((op : Int) == 10) = false := by simp; omega
    have m10 : decide ((op : Int) = 10) = false := by simp; omega
    have n11 : ((op : Int) == 11) = false := by simp; omega
    have m11 : decide ((op : Int) = 11) = false := by simp; omega
    have n12 : ((op : Int) == 12) = false := by simp; omega
    have m12 : decide ((op : Int) = 12) = false := by simp; omega
    have n13 : ((op : Int) == 13) = false := by simp; omega
    have m13 : decide ((op : Int) = 13) = false := by simp; omega
    have n14 : ((op : Int) == 14) = false := by simp; omega
    have m14 : decide ((op : Int) = 14) = false := by simp; omega
    have l14 : decide ((op : Int) ≤ 14) = false := by simp; omega
    have l1 : decide (1 ≤ (op : Int)) = true := by simp; omega
    have HR : Hid (14 < op) := hop
    clear hop
    go_enter Tryz.func33, Tryz.ntmps33
    go_wp2_with fail
    go_ret
    exact ⟨by have := HR.out; unfold fitD; simp only; rw [if_neg (by omega), if_neg (by omega), if_neg (by omega), if_neg (by omega), if_neg (by omega), decide_eq_false (by omega)]; rfl, kp_trans (kp_alloc _ _) (kp_alloc _ _)⟩
set_option maxHeartbeats 4000000 in
set_option maxRecDepth 100000 in
theorem dfine_any (a : Option Addr) (cap : Nat) (f : Bool) (N : Nat) (r : Int) (d : Ins) (w : World) : Calls Tryz.prog 25 #[.agg #[.slice a N cap, .int .i64 r, .bool f], d.val] w fun e w' => e = .returned (.bool (fitD N r d)) ∧ Kp w w' := by
  obtain ⟨op, c, ⟨sa, sb, sc, sd⟩, x, y⟩ := d
  unfold Ins.val
  have hop : op = 0 ∨ op = 1 ∨ op = 2 ∨ op = 3 ∨ op = 8 ∨ op = 9 ∨ op = 10 ∨ op = 11 ∨ op = 14 ∨ op = 4 ∨ op = 5 ∨ op = 6 ∨ op = 7 ∨ op = 12 ∨ op = 13 ∨ 14 < op := by omega
  rcases hop with rfl | rfl | rfl | rfl | rfl | rfl | rfl | rfl | rfl | rfl | rfl | rfl | rfl | rfl | rfl | hop
  · go_enter Tryz.func25, Tryz.ntmps25
    go_wp2_with fail
    go_ret
    exact ⟨rfl, kp_trans (kp_alloc _ _) (kp_alloc _ _)⟩
  · go_enter Tryz.func25, Tryz.ntmps25
    go_wp2_with fail
    go_ret
    exact ⟨rfl, kp_trans (kp_alloc _ _) (kp_alloc _ _)⟩
  · go_enter Tryz.func25, Tryz.ntmps25
    go_wp2_with fail
    go_ret
    exact ⟨rfl, kp_trans (kp_alloc _ _) (kp_alloc _ _)⟩
  · go_enter Tryz.func25, Tryz.ntmps25
    go_wp2_with fail
    go_ret
    exact ⟨rfl, kp_trans (kp_alloc _ _) (kp_alloc _ _)⟩
  · go_enter Tryz.func25, Tryz.ntmps25
    go_wp2_with fail
    go_ret
    exact ⟨rfl, kp_trans (kp_alloc _ _) (kp_alloc _ _)⟩
  · go_enter Tryz.func25, Tryz.ntmps25
    go_wp2_with fail
    go_ret
    exact ⟨rfl, kp_trans (kp_alloc _ _) (kp_alloc _ _)⟩
  · go_enter Tryz.func25, Tryz.ntmps25
    go_wp2_with fail
    go_ret
    exact ⟨rfl, kp_trans (kp_alloc _ _) (kp_alloc _ _)⟩
  · go_enter Tryz.func25, Tryz.ntmps25
    go_wp2_with fail
    go_ret
    exact ⟨rfl, kp_trans (kp_alloc _ _) (kp_alloc _ _)⟩
  · go_enter Tryz.func25, Tryz.ntmps25
    go_wp2_with fail
    go_ret
    exact ⟨rfl, kp_trans (kp_alloc _ _) (kp_alloc _ _)⟩
  · cases hp : plB x (N : Int)
    · have HP : Hid (plB x (N : Int) = false) := hp
      clear hp
      go_enter Tryz.func25, Tryz.ntmps25
      go_wp2_with fail
      refine Calls.mono (dplace_any _ _ _) ?_
      rintro e x1 ⟨rfl, hw⟩
      rw [hw, HP.out]
      clear hw x1
      go_wp2_with fail
      go_ret
      exact ⟨by unfold fitD; rw [if_pos rfl]; simp only [HP.out]; rfl, kp_trans (kp_alloc _ _) (kp_alloc _ _)⟩
    · have HP : Hid (plB x (N : Int) = true) := hp
      clear hp
      go_enter Tryz.func25, Tryz.ntmps25
      go_wp2_with fail
      refine Calls.mono (dplace_any _ _ _) ?_
      rintro e x1 ⟨rfl, hw⟩
      rw [hw, HP.out]
      clear hw x1
      go_wp2_with fail
      refine Calls.mono (dplace_any _ _ _) ?_
      rintro e x1 ⟨rfl, hw⟩
      rw [hw]
      clear hw x1
      go_wp2_with fail
      go_ret
      exact ⟨by unfold fitD; rw [if_pos rfl]; simp only [HP.out]; rfl, kp_trans (kp_alloc _ _) (kp_alloc _ _)⟩
  · go_enter Tryz.func25, Tryz.ntmps25
    go_wp2_with fail
    refine Calls.mono (dplace_any _ _ _) ?_
    rintro e x1 ⟨rfl, hw⟩
    rw [hw]
    clear hw x1
    go_wp2_with fail
    go_ret
    exact ⟨rfl, kp_trans (kp_alloc _ _) (kp_alloc _ _)⟩
  · go_enter Tryz.func25, Tryz.ntmps25
    go_wp2_with fail
    refine Calls.mono (dplace_any _ _ _) ?_
    rintro e x1 ⟨rfl, hw⟩
    rw [hw]
    clear hw x1
    go_wp2_with fail
    go_ret
    exact ⟨rfl, kp_trans (kp_alloc _ _) (kp_alloc _ _)⟩
  · go_enter Tryz.func25, Tryz.ntmps25
    go_wp2_with fail
    refine Calls.mono (dplace_any _ _ _) ?_
    rintro e x1 ⟨rfl, hw⟩
    rw [hw]
    clear hw x1
    go_wp2_with fail
    go_ret
    exact ⟨rfl, kp_trans (kp_alloc _ _) (kp_alloc _ _)⟩
  · go_enter Tryz.func25, Tryz.ntmps25
    go_wp2_with fail
    refine Calls.mono (dplace_any _ _ _) ?_
    rintro e x1 ⟨rfl, hw⟩
    rw [hw]
    clear hw x1
    go_wp2_with fail
    go_ret
    exact ⟨rfl, kp_trans (kp_alloc _ _) (kp_alloc _ _)⟩
  · go_enter Tryz.func25, Tryz.ntmps25
    go_wp2_with fail
    refine Calls.mono (dplace_any _ _ _) ?_
    rintro e x1 ⟨rfl, hw⟩
    rw [hw]
    clear hw x1
    go_wp2_with fail
    go_ret
    exact ⟨rfl, kp_trans (kp_alloc _ _) (kp_alloc _ _)⟩
  · have n1 : ((op : Int) == 1) = false := by simp; omega
    have m1 : decide ((op : Int) = 1) = false := by simp; omega
    have n2 : ((op : Int) == 2) = false := by simp; omega
    have m2 : decide ((op : Int) = 2) = false := by simp; omega
    have n3 : ((op : Int) == 3) = false := by simp; omega
    have m3 : decide ((op : Int) = 3) = false := by simp; omega
    have n4 : ((op : Int) == 4) = false := by simp; omega
    have m4 : decide ((op : Int) = 4) = false := by simp; omega
    have n5 : ((op : Int) == 5) = false := by simp; omega
    have m5 : decide ((op : Int) = 5) = false := by simp; omega
    have n6 : ((op : Int) == 6) = false := by simp; omega
    have m6 : decide ((op : Int) = 6) = false := by simp; omega
    have n7 : ((op : Int) == 7) = false := by simp; omega
    have m7 : decide ((op : Int) = 7) = false := by simp; omega
    have n8 : ((op : Int) == 8) = false := by simp; omega
    have m8 : decide ((op : Int) = 8) = false := by simp; omega
    have n9 : ((op : Int) == 9) = false := by simp; omega
    have m9 : decide ((op : Int) = 9) = false := by simp; omega
    have n10 : ((op : Int) == 10) = false := by simp; omega
    have m10 : decide ((op : Int) = 10) = false := by simp; omega
    have n11 : ((op : Int) == 11) = false := by simp; omega
    have m11 : decide ((op : Int) = 11) = false := by simp; omega
    have n12 : ((op : Int) == 12) = false := by simp; omega
    have m12 : decide ((op : Int) = 12) = false := by simp; omega
    have n13 : ((op : Int) == 13) = false := by simp; omega
    have m13 : decide ((op : Int) = 13) = false := by simp; omega
    have n14 : ((op : Int) == 14) = false := by simp; omega
    have m14 : decide ((op : Int) = 14) = false := by simp; omega
    have l14 : decide ((op : Int) ≤ 14) = false := by simp; omega
    have l1 : decide (1 ≤ (op : Int)) = true := by simp; omega
    have HR : Hid (14 < op) := hop
    clear hop
    go_enter Tryz.func25, Tryz.ntmps25
    go_wp2_with fail
    go_ret
    exact ⟨by have := HR.out; unfold fitD; simp only; rw [if_neg (by omega), if_neg (by omega), if_neg (by omega), if_neg (by omega), if_neg (by omega), decide_eq_false (by omega)]; rfl, kp_trans (kp_alloc _ _) (kp_alloc _ _)⟩
end
end Go.Proofs.YtlgemficalcghaaGreat
/- Sound: both texts. -/
namespace Go.Proofs.YtlgemficalcghaaGreat
open Go.ChangeShapes Go.WideShapes Go.ChangeAt Go.RowKit
set_option linter.unusedVariables false
set_option linter.unusedSimpArgs false
def lastB (C : List Ins) : Bool := match C.getLast? with | some d => (d.op : Int) == 14 || (d.op : Int) == 5 | none => false
def sizeB (N : Nat) (r : Int) : Bool := decide (1 ≤ N) && decide (N ≤ 2000) && decide (0 ≤ r) && decide (r ≤ 2000)
def sndF (C : List Ins) (r : Int) : Bool := sizeB C.length r && C.all (fitD C.length r) && lastB C
section
variable {w w1 : World}
theorem box2 (w : World) (a b : Value) (t : TypeId) : ((w.alloc (.cells #[a, b] t)).cell? ⟨w.heap.size, 0, none⟩ = some a ∧ (w.alloc (.cells #[a, b] t)).cell? ⟨w.heap.size, 1, none⟩ = some b) ∧ Kp w (w.alloc (.cells #[a, b] t)) :=
  ⟨⟨by rw [cell_at (alloc_new w _)]; rfl, by rw [cell_at (alloc_new w _)]; rfl⟩, kp_alloc _ _⟩
theorem box3 (w : World) (a b c : Value) (t : TypeId) : ((w.alloc (.cells #[a, b, c] t)).cell? ⟨w.heap.size, 0, none⟩ = some a ∧ (w.alloc (.cells #[a, b, c] t)).cell? ⟨w.heap.size, 1, none⟩ = some b ∧ (w.alloc (.cells #[a, b, c] t)).cell? ⟨w.heap.size, 2, none⟩ = some c) ∧ Kp w (w.alloc (.cells #[a, b, c] t)) :=
  ⟨⟨by rw [cell_at (alloc_new w _)]; rfl, by rw [cell_at (alloc_new w _)]; rfl, by rw [cell_at (alloc_new w _)]; rfl⟩, kp_alloc _ _⟩
theorem all_step {p : Ins → Bool} {C : List Ins} {j : Nat} {d : Ins} (h : C[j]? = some d) : (C.drop j).all p = (p d && (C.drop (j + 1)).all p) := by
  obtain ⟨hl, hd⟩ := List.getElem?_eq_some_iff.1 h
  rw [List.drop_eq_getElem_cons hl, List.all_cons, hd]
set_option maxHeartbeats 4000000 in
set_option maxRecDepth 100000 in
theorem gall_any {b o N cap : Nat} (K : Nat) (r : Int) {C : List Ins} (h : Cd w (.slice (some ⟨b, o, none⟩) N cap) C) : Calls Tryz.prog 23 #[.agg #[.int .i64 K, .int .i64 r], .slice (some ⟨b, o, none⟩) N cap] w fun e w' => e = .returned (.bool (C.all (fitD K r))) ∧ Kp w w' := by
  obtain ⟨hl, hc1, hm1⟩ := h.len
  unfold maxLen at hm1
  obtain ⟨X, hX⟩ : ∃ X, C.all (fitD K r) = X := ⟨_, rfl⟩
  rw [hX]
  have HC : Hid (Cd w (.slice (some ⟨b, o, none⟩) N cap) C ∧ C.length = N ∧ (C.drop 0).all (fitD K r) = X) := ⟨h, hl.symm, hX⟩
  clear h hl hX
  go_enter Tryz.func23, Tryz.ntmps23
  go_wp2_with fail
  obtain ⟨⟨g0, g1⟩, kx⟩ := box2 w (.int .i64 K) (.int .i64 r) 59
  have HP : Hid (Kp w (w.alloc (.cells #[.int .i64 K, .int .i64 r] 59))) := kx
  clear kx
  obtain ⟨x1, hx1⟩ : ∃ x, w.heap.size = x := ⟨_, rfl⟩
  rw [hx1] at g0 g1 ⊢
  clear hx1
  generalize (w.alloc (.cells #[.int .i64 K, .int .i64 r] 59)) = wp at *
  go_loopw [9] (fun v9 wr => ∃ j : Nat, j ≤ N ∧ v9 = .int .i64 j ∧ Hid ((C.drop j).all (fitD K r) = X ∧ Kp wp wr)) (fun v9 _ => N - (intOf v9).toNat)
  case atStart => exact ⟨0, Nat.zero_le _, rfl, HC.out.2.2, Below.refl _ _⟩
  case round =>
    obtain ⟨j, hj, rfl, HK⟩ := hrel
    replace g0 := kp_cell HK.out.2 g0
    replace g1 := kp_cell HK.out.2 g1
    by_cases hlj : j < N
    · have dj : decide ((j : Int) < (N : Int)) = true := decide_eq_true (by omega)
      obtain ⟨d, hd⟩ : ∃ d, C[j]? = some d := ⟨_, List.getElem?_eq_getElem (by rw [HC.out.2.1]; exact hlj)⟩
      have q1 := HC.out.1.kp (kp_trans HP.out HK.out.2)
      obtain ⟨op, c, ⟨sa, sb, sc, sd⟩, x, y⟩ := d
      have a0 := q1.cell8 hd 0 _ rfl
      have a1 := q1.cell8 hd 1 _ rfl
      have a2 := q1.cell8 hd 2 _ rfl
      have a3 := q1.cell8 hd 3 _ rfl
      have a4 := q1.cell8 hd 4 _ rfl
      have a5 := q1.cell8 hd 5 _ rfl
      have a6 := q1.cell8 hd 6 _ rfl
      have a7 := q1.cell8 hd 7 _ rfl
      simp only [Nat.add_zero] at a0
      have HS : Hid ((fitD K r ⟨op, c, ⟨sa, sb, sc, sd⟩, x, y⟩ && (C.drop (j + 1)).all (fitD K r)) = X) := by show _ = X; rw [← all_step hd]; exact HK.out.1
      have HI : Hid (∀ w, Calls Tryz.prog 33 #[.agg #[.int .i64 K, .int .i64 r], .agg #[.int .u8 op, .int .u8 c, .int .u64 sa, .int .u64 sb, .int .u64 sc, .int .u64 sd, .int .i64 x, .int .i64 y]] w fun e w' => e = .returned (.bool (fitD K r ⟨op, c, ⟨sa, sb, sc, sd⟩, x, y⟩)) ∧ Kp w w') := fun w => gfits_any K r ⟨op, c, ⟨sa, sb, sc, sd⟩, x, y⟩ w
      have g0' := kp_cell (kp_alloc wr (.cells #[.int .u8 op, .int .u8 c, .int .u64 sa, .int .u64 sb, .int .u64 sc, .int .u64 sd, .int .i64 x, .int .i64 y] 39)) g0
      have g1' := kp_cell (kp_alloc wr (.cells #[.int .u8 op, .int .u8 c, .int .u64 sa, .int .u64 sb, .int .u64 sc, .int .u64 sd, .int .i64 x, .int .i64 y] 39)) g1
      clear hd q1
      go_wp2_with fail
      refine Calls.mono (HI.out _) ?_
      cases hf : fitD K r ⟨op, c, ⟨sa, sb, sc, sd⟩, x, y⟩
      · rw [hf, Bool.false_and] at HS
        obtain rfl := HS.out
        rintro e w2 ⟨rfl, q⟩
        have HK2 : Hid (Kp w w2) := kp_trans (kp_trans HP.out HK.out.2) (kp_trans (kp_alloc _ _) q)
        clear q hf
        go_wp2_with fail
        go_ret
        exact ⟨rfl, HK2.out⟩
      · rw [hf, Bool.true_and] at HS
        rintro e w2 ⟨rfl, q⟩
        have HK2 : Hid (Kp wp w2) := kp_trans HK.out.2 (kp_trans (kp_alloc _ _) q)
        clear q hf
        go_wp2_with fail
        go_roundw
        case rel => exact ⟨j + 1, by omega, by go_num, HS.out, HK2.out⟩
        case measure => simp only [intOf]; omega
    · have dj : decide ((j : Int) < (N : Int)) = false := decide_eq_false (by omega)
      have hX : X = true := by rw [← HK.out.1, List.drop_eq_nil_of_le (by rw [HC.out.2.1]; omega)]; rfl
      subst hX
      go_wp2_with fail
      go_ret
      exact ⟨rfl, kp_trans HP.out HK.out.2⟩
theorem gsizes_any (N : Nat) (r : Int) (w : World) : Calls Tryz.prog 22 #[.agg #[.int .i64 N, .int .i64 r]] w fun e w' => e = .returned (.bool (sizeB N r)) ∧ Kp w w' := by
  by_cases h1 : 1 ≤ N
  · have d1 : decide ((1 : Int) ≤ (N : Int)) = true := decide_eq_true (by omega)
    by_cases h2 : N ≤ 2000
    · have d2 : decide ((N : Int) ≤ (2000 : Int)) = true := decide_eq_true (by omega)
      by_cases h3 : 0 ≤ r
      · have d3 : decide (0 ≤ r) = true := decide_eq_true h3
        have HB : Hid (sizeB N r = decide (r ≤ 2000)) := by show _ = _; unfold sizeB; simp [h1, h2, h3]
        clear h1 h2 h3
        go_enter Tryz.func22, Tryz.ntmps22
        go_wp2_with fail
        go_ret
        exact ⟨by rw [HB.out]; rfl, kp_alloc _ _⟩
      · have d3 : decide (0 ≤ r) = false := decide_eq_false h3
        have HB : Hid (sizeB N r = false) := by show _ = _; unfold sizeB; simp [h1, h2, h3]
        clear h1 h2 h3
        go_enter Tryz.func22, Tryz.ntmps22
        go_wp2_with fail
        go_ret
        exact ⟨by rw [HB.out]; rfl, kp_alloc _ _⟩
    · have d2 : decide ((N : Int) ≤ (2000 : Int)) = false := decide_eq_false (by omega)
      have HB : Hid (sizeB N r = false) := by show _ = _; unfold sizeB; simp [h1, h2]
      clear h1 h2
      go_enter Tryz.func22, Tryz.ntmps22
      go_wp2_with fail
      go_ret
      exact ⟨by rw [HB.out]; rfl, kp_alloc _ _⟩
  · have d1 : decide ((1 : Int) ≤ (N : Int)) = false := decide_eq_false (by omega)
    have HB : Hid (sizeB N r = false) := by show _ = _; unfold sizeB; simp [h1]
    clear h1
    go_enter Tryz.func22, Tryz.ntmps22
    go_wp2_with fail
    go_ret
    exact ⟨by rw [HB.out]; rfl, kp_alloc _ _⟩
theorem last_cell {b o N cap : Nat} {C : List Ins} (h : Cd w (.slice (some ⟨b, o, none⟩) N cap) C) (hN : 1 ≤ N) : ∃ op : Nat, w.cell? ⟨b, o + (N - 1) * 8, none⟩ = some (.int .u8 op) ∧ lastB C = ((op : Int) == 14 || (op : Int) == 5) := by
  have hl := h.len.1
  obtain ⟨d, hd⟩ : ∃ d, C[N - 1]? = some d := ⟨_, List.getElem?_eq_getElem (by omega)⟩
  refine ⟨d.op, h.cell8 hd 0 _ rfl, ?_⟩
  unfold lastB
  rw [List.getLast?_eq_getElem?, ← hl, hd]
theorem gends_any {b o N cap : Nat} {C : List Ins} (h : Cd w (.slice (some ⟨b, o, none⟩) N cap) C) (hN : 1 ≤ N) : Calls Tryz.prog 24 #[.slice (some ⟨b, o, none⟩) N cap] w fun e w' => e = .returned (.bool (lastB C)) ∧ Kp w w' := by
  obtain ⟨hl, hc1, hm1⟩ := h.len
  unfold maxLen at hm1
  obtain ⟨op, h0, h1⟩ := last_cell h hN
  rw [h1]
  obtain ⟨k, hk⟩ : ∃ k, N - 1 = k := ⟨_, rfl⟩
  rw [hk] at h0
  have e : (N : Int) - 1 = (k : Int) := by omega
  have hlt : k < N := by omega
  clear h hl h1 hk
  cases h14 : ((op : Int) == 14)
  · go_enter Tryz.func24, Tryz.ntmps24
    go_wp2_with fail
    go_ret
    exact ⟨rfl, Below.refl _ _⟩
  · go_enter Tryz.func24, Tryz.ntmps24
    go_wp2_with fail
    go_ret
    exact ⟨rfl, Below.refl _ _⟩
end
end Go.Proofs.YtlgemficalcghaaGreat
/- Sound: both texts, whole. -/
namespace Go.Proofs.YtlgemficalcghaaGreat
open Go.ChangeShapes Go.WideShapes Go.ChangeAt Go.RowKit
set_option linter.unusedVariables false
set_option linter.unusedSimpArgs false
section
variable {w w1 : World}
theorem box32 (w : World) (a b c d e : Value) (t u : TypeId) : (((w.alloc (.cells #[a, b, c] t)).alloc (.cells #[d, e] u)).cell? ⟨w.heap.size, 0, none⟩ = some a ∧ ((w.alloc (.cells #[a, b, c] t)).alloc (.cells #[d, e] u)).cell? ⟨w.heap.size + 1, 0, none⟩ = some d ∧ ((w.alloc (.cells #[a, b, c] t)).alloc (.cells #[d, e] u)).cell? ⟨w.heap.size + 1, 1, none⟩ = some e) ∧ Kp w ((w.alloc (.cells #[a, b, c] t)).alloc (.cells #[d, e] u)) := by
  have h1 := (box3 w a b c t).1.1
  have h2 := (box2 (w.alloc (.cells #[a, b, c] t)) d e u).1
  rw [alloc_size] at h2
  exact ⟨⟨kp_cell (kp_alloc _ _) h1, h2.1, h2.2⟩, kp_trans (kp_alloc _ _) (kp_alloc _ _)⟩
set_option maxHeartbeats 4000000 in
set_option maxRecDepth 100000 in
theorem gsound_any {a : Option Addr} {N cap : Nat} (f : Bool) (r : Int) {C : List Ins} (h : Cd w (.slice a N cap) C) : Calls Tryz.prog 15 #[.agg #[.slice a N cap, .int .i64 r, .bool f]] w fun e w' => e = .returned (.bool (sndF C r)) ∧ Kp w w' := by
  have hl := h.len.1
  cases hs : sizeB N r
  · have HB : Hid (sizeB N r = false ∧ sndF C r = false) := ⟨hs, by unfold sndF; rw [← hl, hs]; rfl⟩
    rw [HB.out.2]
    clear h hs hl
    go_enter Tryz.func15, Tryz.ntmps15
    go_wp2_with fail
    refine Calls.mono (gsizes_any N r _) ?_
    rw [HB.out.1]
    rintro e w2 ⟨rfl, q⟩
    have HK : Hid (Kp w w2) := kp_trans (box32 _ _ _ _ _ _ _ _).2 q
    clear q
    go_wp2_with fail
    go_ret
    exact ⟨rfl, HK.out⟩
  have hN : 1 ≤ N := by unfold sizeB at hs; simp at hs; omega
  obtain ⟨b, o, rfl, t1⟩ := h.at_ (List.getElem?_eq_getElem (show 0 < C.length by omega))
  clear t1
  obtain ⟨⟨y0, y1, y2⟩, yk⟩ := box32 w (.slice (some ⟨b, o, none⟩) N cap) (.int .i64 r) (.bool f) (.int .i64 N) (.int .i64 r) 32 59
  have HB : Hid (sizeB N r = true ∧ Cd w (.slice (some ⟨b, o, none⟩) N cap) C ∧ Kp w ((w.alloc (.cells #[.slice (some ⟨b, o, none⟩) N cap, .int .i64 r, .bool f] 32)).alloc (.cells #[.int .i64 N, .int .i64 r] 59)) ∧ sndF C r = (C.all (fitD N r) && lastB C) ∧ 1 ≤ N) := ⟨hs, h, yk, by unfold sndF; rw [← hl, hs]; rfl, hN⟩
  clear h hs hl yk hN
  cases ha : C.all (fitD N r)
  · have HA : Hid (C.all (fitD N r) = false) := ha
    rw [HB.out.2.2.2.1, HA.out, Bool.false_and]
    clear ha
    go_enter Tryz.func15, Tryz.ntmps15
    go_wp2_with fail
    refine Calls.mono (gsizes_any N r _) ?_
    rw [HB.out.1]
    rintro e w2 ⟨rfl, q⟩
    have HK : Hid (Kp w w2) := kp_trans HB.out.2.2.1 q
    replace y0 := kp_cell q y0
    replace y1 := kp_cell q y1
    replace y2 := kp_cell q y2
    clear q
    go_wp2_with fail
    refine Calls.mono (gall_any N r (HB.out.2.1.kp HK.out)) ?_
    rw [HA.out]
    rintro e w3 ⟨rfl, q⟩
    have HK2 : Hid (Kp w w3) := kp_trans HK.out q
    clear q
    go_wp2_with fail
    go_ret
    exact ⟨rfl, HK2.out⟩
  · have HA : Hid (C.all (fitD N r) = true) := ha
    rw [HB.out.2.2.2.1, HA.out, Bool.true_and]
    clear ha
    go_enter Tryz.func15, Tryz.ntmps15
    go_wp2_with fail
    refine Calls.mono (gsizes_any N r _) ?_
    rw [HB.out.1]
    rintro e w2 ⟨rfl, q⟩
    have HK : Hid (Kp w w2) := kp_trans HB.out.2.2.1 q
    replace y0 := kp_cell q y0
    replace y1 := kp_cell q y1
    replace y2 := kp_cell q y2
    clear q
    go_wp2_with fail
    refine Calls.mono (gall_any N r (HB.out.2.1.kp HK.out)) ?_
    rw [HA.out]
    rintro e w3 ⟨rfl, q⟩
    have HK2 : Hid (Kp w w3) := kp_trans HK.out q
    replace y0 := kp_cell q y0
    replace y1 := kp_cell q y1
    replace y2 := kp_cell q y2
    clear q
    go_wp2_with fail
    refine Calls.mono (gends_any (HB.out.2.1.kp HK2.out) HB.out.2.2.2.2) ?_
    rintro e w4 ⟨rfl, q⟩
    have HK3 : Hid (Kp w w4) := kp_trans HK2.out q
    clear q
    go_wp2_with fail
    go_ret
    exact ⟨rfl, HK3.out⟩
end
end Go.Proofs.YtlgemficalcghaaGreat
/- Sound: the document's text. -/
namespace Go.Proofs.YtlgemficalcghaaGreat
open Go.ChangeShapes Go.WideShapes Go.ChangeAt Go.RowKit
set_option linter.unusedVariables false
set_option linter.unusedSimpArgs false
section
variable {w w1 : World}
set_option maxHeartbeats 4000000 in
set_option maxRecDepth 100000 in
theorem dsound_any {a : Option Addr} {N cap : Nat} (f : Bool) (r : Int) {C : List Ins} (h : Cd w (.slice a N cap) C) : Calls Tryz.prog 16 #[.agg #[.slice a N cap, .int .i64 r, .bool f]] w fun e w' => e = .returned (.bool (sndF C r)) ∧ Kp w w' := by
  have hl := h.len.1
  by_cases h1 : N < 1
  · have d1 : decide ((N : Int) < 1) = true := decide_eq_true (by omega)
    have HB : Hid (sndF C r = false) := by
      show _ = _
      unfold sndF
      rw [← hl, show sizeB N r = false by unfold sizeB; simp; omega]
      rfl
    rw [HB.out]
    clear h hl
    go_enter Tryz.func16, Tryz.ntmps16
    go_wp2_with fail
    go_ret
    exact ⟨rfl, kp_alloc _ _⟩
  have d1 : decide ((N : Int) < 1) = false := decide_eq_false (by omega)
  by_cases h2 : 2000 < N
  · have d2 : decide ((2000 : Int) < (N : Int)) = true := decide_eq_true (by omega)
    have HB : Hid (sndF C r = false) := by
      show _ = _
      unfold sndF
      rw [← hl, show sizeB N r = false by unfold sizeB; simp; omega]
      rfl
    rw [HB.out]
    clear h hl
    go_enter Tryz.func16, Tryz.ntmps16
    go_wp2_with fail
    go_ret
    exact ⟨rfl, kp_alloc _ _⟩
  have d2 : decide ((2000 : Int) < (N : Int)) = false := decide_eq_false (by omega)
  by_cases h3 : r < 0
  · have d3 : decide (r < 0) = true := decide_eq_true h3
    have HB : Hid (sndF C r = false) := by
      show _ = _
      unfold sndF
      rw [← hl, show sizeB N r = false by unfold sizeB; simp; omega]
      rfl
    rw [HB.out]
    clear h hl
    go_enter Tryz.func16, Tryz.ntmps16
    go_wp2_with fail
    go_ret
    exact ⟨rfl, kp_alloc _ _⟩
  have d3 : decide (r < 0) = false := decide_eq_false h3
  by_cases h4 : 2000 < r
  · have d4 : decide (2000 < r) = true := decide_eq_true h4
    have HB : Hid (sndF C r = false) := by
      show _ = _
      unfold sndF
      rw [← hl, show sizeB N r = false by unfold sizeB; simp; omega]
      rfl
    rw [HB.out]
    clear h hl
    go_enter Tryz.func16, Tryz.ntmps16
    go_wp2_with fail
    go_ret
    exact ⟨rfl, kp_alloc _ _⟩
  have d4 : decide (2000 < r) = false := decide_eq_false h4
  have hs : sizeB N r = true := by unfold sizeB; simp; omega
  obtain ⟨hc1, hm1⟩ := h.len.2
  unfold maxLen at hm1
  obtain ⟨b, o, rfl, t1⟩ := h.at_ (List.getElem?_eq_getElem (show 0 < C.length by omega))
  clear t1
  obtain ⟨op, cl, hlast⟩ := last_cell h (by omega)
  obtain ⟨k, hk⟩ : ∃ k, N - 1 = k := ⟨_, rfl⟩
  rw [hk] at cl
  have e : (N : Int) - 1 = (k : Int) := by omega
  have hlt : k < N := by omega
  obtain ⟨Y, hY⟩ : ∃ Y, sndF C r = Y := ⟨_, rfl⟩
  rw [hY]
  have HC : Hid (Cd w (.slice (some ⟨b, o, none⟩) N cap) C ∧ C.length = N ∧ ((C.drop 0).all (fitD N r) && ((op : Int) == 14 || (op : Int) == 5)) = Y) := ⟨h, hl.symm, by rw [← hY]; unfold sndF; rw [← hl, hs, hlast]; rfl⟩
  clear h hl hs hY hlast hk h1 h2 h3 h4
  go_enter Tryz.func16, Tryz.ntmps16
  go_wp2_with fail
  obtain ⟨⟨g0, g1, g2⟩, kx⟩ := box3 w (.slice (some ⟨b, o, none⟩) N cap) (.int .i64 r) (.bool f) 32
  have HP : Hid (Kp w (w.alloc (.cells #[.slice (some ⟨b, o, none⟩) N cap, .int .i64 r, .bool f] 32))) := kx
  replace cl := kp_cell kx cl
  clear kx
  obtain ⟨x1, hx1⟩ : ∃ x, w.heap.size = x := ⟨_, rfl⟩
  rw [hx1] at g0 g1 g2 ⊢
  clear hx1
  generalize (w.alloc (.cells #[.slice (some ⟨b, o, none⟩) N cap, .int .i64 r, .bool f] 32)) = wp at *
  go_loopw [4] (fun v4 wr => ∃ j : Nat, j ≤ N ∧ v4 = .int .i64 j ∧ Hid (((C.drop j).all (fitD N r) && ((op : Int) == 14 || (op : Int) == 5)) = Y ∧ Kp wp wr)) (fun v4 _ => N - (intOf v4).toNat)
  case atStart => exact ⟨0, Nat.zero_le _, rfl, HC.out.2.2, Below.refl _ _⟩
  case round =>
    obtain ⟨j, hj, rfl, HK⟩ := hrel
    replace g0 := kp_cell HK.out.2 g0
    replace g1 := kp_cell HK.out.2 g1
    replace g2 := kp_cell HK.out.2 g2
    replace cl := kp_cell HK.out.2 cl
    by_cases hlj : j < N
    · have dj : decide ((j : Int) < (N : Int)) = true := decide_eq_true (by omega)
      obtain ⟨d, hd⟩ : ∃ d, C[j]? = some d := ⟨_, List.getElem?_eq_getElem (by rw [HC.out.2.1]; exact hlj)⟩
      have q1 := HC.out.1.kp (kp_trans HP.out HK.out.2)
      obtain ⟨op', c, ⟨sa, sb, sc, sd⟩, x, y⟩ := d
      have a0 := q1.cell8 hd 0 _ rfl
      have a1 := q1.cell8 hd 1 _ rfl
      have a2 := q1.cell8 hd 2 _ rfl
      have a3 := q1.cell8 hd 3 _ rfl
      have a4 := q1.cell8 hd 4 _ rfl
      have a5 := q1.cell8 hd 5 _ rfl
      have a6 := q1.cell8 hd 6 _ rfl
      have a7 := q1.cell8 hd 7 _ rfl
      simp only [Nat.add_zero] at a0
      have HS : Hid (((fitD N r ⟨op', c, ⟨sa, sb, sc, sd⟩, x, y⟩ && (C.drop (j + 1)).all (fitD N r)) && ((op : Int) == 14 || (op : Int) == 5)) = Y) := by show _ = Y; rw [← all_step hd]; exact HK.out.1
      have HI : Hid (∀ w, Calls Tryz.prog 25 #[.agg #[.slice (some ⟨b, o, none⟩) N cap, .int .i64 r, .bool f], .agg #[.int .u8 op', .int .u8 c, .int .u64 sa, .int .u64 sb, .int .u64 sc, .int .u64 sd, .int .i64 x, .int .i64 y]] w fun e w' => e = .returned (.bool (fitD N r ⟨op', c, ⟨sa, sb, sc, sd⟩, x, y⟩)) ∧ Kp w w') := fun w => dfine_any _ cap f N r ⟨op', c, ⟨sa, sb, sc, sd⟩, x, y⟩ w
      clear hd q1
      cases hf : fitD N r ⟨op', c, ⟨sa, sb, sc, sd⟩, x, y⟩
      · rw [hf] at HS HI
        have hY : Y = false := by rw [← HS.out]; rfl
        subst hY
        clear hf HS
        go_wp2_with fail
        go_region_with (go_at_call 25; refine Calls.mono (HI.out _) ?_; rintro e w2 ⟨rfl, q⟩)
        all_goals
          have HK2 : Hid (Kp w w2) := kp_trans (kp_trans HP.out HK.out.2) (kp_trans (kp_drew _) q)
          clear q
          go_wp2_with fail
          go_ret
          exact ⟨rfl, HK2.out⟩
      · rw [hf, Bool.true_and] at HS
        rw [hf] at HI
        clear hf
        go_wp2_with fail
        go_region_with (go_at_call 25; refine Calls.mono (HI.out _) ?_; rintro e w2 ⟨rfl, q⟩)
        all_goals
          have HK2 : Hid (Kp wp w2) := kp_trans HK.out.2 (kp_trans (kp_drew _) q)
          clear q
          go_wp2_with fail
          go_roundw
          case rel => exact ⟨j + 1, by omega, by go_num, HS.out, HK2.out⟩
          case measure => simp only [intOf]; omega
    · have dj : decide ((j : Int) < (N : Int)) = false := decide_eq_false (by omega)
      have hY : ((op : Int) == 14 || (op : Int) == 5) = Y := by rw [← HK.out.1, List.drop_eq_nil_of_le (by rw [HC.out.2.1]; omega)]; rfl
      cases h14 : ((op : Int) == 14)
      · rw [h14, Bool.false_or] at hY
        go_wp2_with fail
        go_ret
        exact ⟨rfl, kp_trans HP.out HK.out.2⟩
      · rw [h14, Bool.true_or] at hY
        subst hY
        go_wp2_with fail
        go_ret
        exact ⟨rfl, kp_trans HP.out HK.out.2⟩
end
end Go.Proofs.YtlgemficalcghaaGreat
/- ProgSounds: the walk. -/
namespace Go.Proofs.YtlgemficalcghaaGreat
open Go.ChangeShapes Go.WideShapes Go.ChangeAt Go.RowKit
set_option linter.unusedVariables false
set_option linter.unusedSimpArgs false
section
variable {w w1 : World}
set_option maxHeartbeats 4000000 in
set_option maxRecDepth 100000 in
theorem sounds_law {a : Option Addr} {N cap : Nat} {C : List Ins} (h : Cd w (.slice a N cap) C) (r : Int) (f : Bool) (g : Gm w) : Calls Tryz.prog 6 #[.agg #[.slice a N cap, .int .i64 r, .bool f]] w fun e w' => e = .returned (.bool true) ∧ Kp w w' := by
  obtain ⟨hc1, hm1⟩ := h.len.2
  unfold maxLen at hm1
  have HG : Hid (Gm w ∧ Cd w (.slice a N cap) C) := ⟨g, h⟩
  clear g h
  obtain ⟨⟨y0, y1, y2⟩, yk⟩ := box3 w (.slice a N cap) (.int .i64 r) (.bool f) 32
  have HX : Hid (Kp w (w.alloc (.cells #[.slice a N cap, .int .i64 r, .bool f] 32))) := yk
  clear yk
  by_cases h1 : 2100 < N
  · have d1 : decide ((2100 : Int) < (N : Int)) = true := decide_eq_true (by omega)
    go_enter Tryz.func6, Tryz.ntmps6
    go_wp2_with fail
    refine Calls.mono (qknown_any (HG.out.1.kp HX.out)) ?_
    rintro e w1 ⟨rfl, q⟩
    have HK : Hid (Kp w w1) := kp_trans HX.out q
    clear q
    go_wp2_with fail
    go_ret
    exact ⟨rfl, HK.out⟩
  have d1 : decide ((2100 : Int) < (N : Int)) = false := decide_eq_false (by omega)
  go_enter Tryz.func6, Tryz.ntmps6
  go_wp2_with fail
  refine Calls.mono (qknown_any (HG.out.1.kp HX.out)) ?_
  rintro e w1 ⟨rfl, q⟩
  have HK : Hid (Kp w w1) := kp_trans HX.out q
  replace y0 := kp_cell q y0
  replace y1 := kp_cell q y1
  replace y2 := kp_cell q y2
  clear q
  go_wp2_with fail
  have z0 := fun w' (k : Kp w1 w') => kp_cell k y0
  have z1 := fun w' (k : Kp w1 w') => kp_cell k y1
  have z2 := fun w' (k : Kp w1 w') => kp_cell k y2
  have HS : Hid ((∀ x, Kp w1 x → Calls Tryz.prog 15 #[.agg #[.slice a N cap, .int .i64 r, .bool f]] x fun e w' => e = .returned (.bool (sndF C r)) ∧ Kp w1 w') ∧ (∀ x, Kp w1 x → Calls Tryz.prog 16 #[.agg #[.slice a N cap, .int .i64 r, .bool f]] x fun e w' => e = .returned (.bool (sndF C r)) ∧ Kp w1 w')) :=
    ⟨fun x k => (gsound_any f r (HG.out.2.kp (kp_trans HK.out k))).mono fun e w' q => ⟨q.1, kp_trans k q.2⟩, fun x k => (dsound_any f r (HG.out.2.kp (kp_trans HK.out k))).mono fun e w' q => ⟨q.1, kp_trans k q.2⟩⟩
  generalize sndF C r = X at HS
  clear y0 y1 y2
  have hk0 : Kp w1 w1 := Below.refl _ _
  go_region_held3 (fun w' => Kp w1 w') (first | assumption | exact Below.drew (by assumption))
    (first
      | (go_at_call 15; refine Calls.mono (HS.out.1 _ (by assumption)) ?_; rintro e w2 ⟨rfl, hk⟩)
      | (go_at_call 16; refine Calls.mono (HS.out.2 _ (by assumption)) ?_; rintro e w2 ⟨rfl, hk⟩))
  have HK2 := fun (w2 : World) (k : Kp w1 w2) => kp_trans HK.out k
  go_wp2_with fail
  go_ret
  exact ⟨by simp, HK2 _ (by assumption)⟩
end
end Go.Proofs.YtlgemficalcghaaGreat
