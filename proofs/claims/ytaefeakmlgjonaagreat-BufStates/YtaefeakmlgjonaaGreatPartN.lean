/- Texts that the proof of the law stands on: DC. -/
import Derived.Test.YtaefeakmlgjonaaGreatPartM
import Derived.Deep.RegionWith
import Derived.Deep.CutRange
import Derived.Deep.CutBlock
import Derived.BigQuiet
/- BufStates, walked. -/
namespace Go.Proofs.YtaefeakmlgjonaaGreat
open Go.ChangeShapes Go.WideShapes Go.ChangeAt Go.RowKit Go.Maps Go.MapKept
set_option linter.unusedVariables false
set_option linter.unusedSimpArgs false
set_option maxRecDepth 100000
set_option maxHeartbeats 128000000 in
theorem states_law {v u : Value} {ls : List ByteArray} {l : List Op13} {W : World} (hF : Sl (fun k => k < W.heap.size) v ls W) (hO : OpL W.heap.size u l W) (hok : ∀ o ∈ l, o.ok) (hwt : ∀ o ∈ l, o.ls.length ≤ 8796093022208) : Calls Tryz.prog 7 #[v, u] W fun e w' => e = .returned (.bool true) ∧ Below W.heap.size W w' := by
  have HV : Hid _ := heavy_any hF hO
  obtain ⟨va, vc, rfl, c1, c2, _⟩ := hF.form
  obtain ⟨ua, uc, rfl, u1, u2⟩ := hO.form
  obtain ⟨n, hn⟩ : ∃ n, ls.length = n := ⟨_, rfl⟩
  obtain ⟨N, hN⟩ : ∃ n, l.length = n := ⟨_, rfl⟩
  have HF : Hid (Sl (fun k => k < W.heap.size) (.slice va n vc) ls W ∧ ls.length = n) := ⟨by rw [← hn]; exact hF, hn⟩
  have HO : Hid (OpL W.heap.size (.slice ua N uc) l W ∧ l.length = N ∧ (∀ o ∈ l, o.ok) ∧ ∀ o ∈ l, o.ls.length ≤ 8796093022208) := ⟨by rw [← hN]; exact hO, hN, hok, hwt⟩
  rw [hn] at HV c1 ⊢
  rw [hN] at HV u1 ⊢
  unfold maxLen at c2 u2
  have hn9 : n ≤ 9223372036854775807 := by omega
  have hN9 : N ≤ 9223372036854775807 := by omega
  have e1 := eqB
  have e2 := eqB0
  have HK : Hid (∀ z, Kp W z → Calls Tryz.prog 10 #[] z fun e w' => e = .returned (.bool true) ∧ Hid (Kp W w')) := fun z kz => (bknown_any z).mono (by rintro e w' ⟨rfl, k⟩; exact ⟨rfl, kp_trans kz k⟩)
  clear hF hO hok hwt hn hN c1 c2 u1 u2
  go_enter Tryz.func7, Tryz.ntmps7
  go_wp2_with fail
  refine Calls.mono HV.out ?_
  rintro e w1 ⟨⟨hv, rfl, hh, q1, rfl⟩⟩
  clear HV
  cases hv with
  | true =>
    clear hh
    go_wp2_with fail
    refine Calls.mono (HK.out _ (kp_drewN _ _)) ?_
    rintro e w2 ⟨rfl, H2⟩
    clear HK
    go_wp2_with fail
    go_ret
    exact ⟨rfl, H2.out⟩
  | false =>
    obtain ⟨hn21, hN60⟩ := hh rfl
    clear hh
    go_wp2_with fail
    refine Calls.mono (HK.out _ (kp_drewN _ _)) ?_
    rintro e w2 ⟨rfl, H2⟩
    have hsl2 := HF.out.1.kp H2.out
    clear HK
    by_cases hE : beyondE (ls.length : Int) ls = 0
    · have HN : Hid _ := bnew_yes (B := W.heap.size) H2.out.size hsl2 (n := 30) (by decide) hE
      have HLn : Hid (Ln ls) := ln_new hE
      clear hE hsl2
      go_wp2_with fail
      refine Calls.mono HN.out ?_
      rintro e w3 ⟨b, rfl, k3, o, a, h3, _⟩
      have H3 : Hid (Kp W w3 ∧ Clm W.heap.size b o 50000 a (newS ls 30) 1 w3) := ⟨kp_trans H2.out k3, clm_first h3 HLn.out⟩
      obtain ⟨n0, hn0⟩ : ∃ n, (newS ls 30).ls.length = n := ⟨_, rfl⟩
      have HLi : Hid (Calls Tryz.prog 14 #[.pointer (some ⟨b, 0, none⟩)] w3 fun e w' => ∃ gb, e = .returned (.slice (some ⟨gb, 0, none⟩) n0 n0) ∧ Row w3.heap.size (.slice (some ⟨gb, 0, none⟩) n0 n0) (newS ls 30).ls w' ∧ Kp w3 w') := by
        have := blinesL h3 (by have := H3.out.2.fine.ls.2.1; omega)
        rw [hn0] at this; exact this
      clear HN k3 h3 H2 HF hn0
      go_wp2_with fail
      refine Calls.mono HLi.out ?_
      rintro e w4 ⟨gb, rfl, r4, k4⟩
      clear HLi
      obtain ⟨p, hp⟩ : ∃ p, w4.heap.size = p := ⟨_, rfl⟩
      obtain ⟨W5, hW5⟩ : ∃ z, w4.alloc (.cells #[.slice (some ⟨gb, 0, none⟩) n0 n0] 22) = z := ⟨_, rfl⟩
      have HS0 : Hid (LpS W.heap.size b 0 o a (newS ls 30) [(newS ls 30).ls] (.slice (some ⟨p, 0, none⟩) 1 1) W W5) := by
        have k5 : Kp w4 W5 := by rw [← hW5]; exact kp_alloc _ _
        have b5 : Lc 22 p [.slice (some ⟨gb, 0, none⟩) n0 n0] W5 := by rw [← hW5, ← hp]; exact Lc.new w4 [.slice (some ⟨gb, 0, none⟩) n0 n0] 22
        exact lps_first H3.out.2 H3.out.1 r4 k4 k5 b5 hp
      clear r4 k4 H3 HLn
      go_wp2_with fail
      go_loopw [7, 8] (fun v7 v8 wr => ∃ (i : Nat) (o : Tz.Own) (a : At) (s : BS) (tl : List (List ByteArray)) (ta : Option Addr) (tn tc : Nat), i ≤ N ∧ v8 = .int .i64 i ∧ v7 = .slice ta tn tc ∧ Hid (LpS W.heap.size b i o a s tl (.slice ta tn tc) W wr)) (fun _ v8 _ => N - (intOf v8).toNat)
      case atStart => exact ⟨0, o, a, _, _, _, _, _, Nat.zero_le _, rfl, rfl, HS0⟩
      case round =>
        clear HS0 hW5 hp
        obtain ⟨i, o, a, s, tl, ta, tn, tc, hi, rfl, rfl, HL⟩ := hrel
        by_cases hlt : i < N
        · have g1 : decide ((i : Int) < (N : Int)) = true := decide_eq_true (by omega)
          have g2 : decide (i < N) = true := decide_eq_true hlt
          obtain ⟨oc, hoc⟩ : ∃ o, l[i]? = some o := ⟨_, List.getElem?_eq_getElem (by rw [HO.out.2.1]; exact hlt)⟩
          obtain ⟨g, off, rfl, hgB, _, _, _, _, _, _, hsl⟩ := (HO.out.1.below HL.out.kp).at_ hoc
          have hmem := List.mem_of_getElem? hoc
          obtain ⟨hkd, ha, hb, hc⟩ := HO.out.2.2.1 oc hmem
          have hw8 := HO.out.2.2.2 oc hmem
          have hrg : ∀ z, Kp wr z → z.rangeAt g (off + i * 6) oc.row := fun z kz => (HO.out.1.below (HL.out.kp.trans (kz.mono HL.out.hB))).range hoc
          clear hoc hmem
          obtain ⟨kd, a0, b0, c0, v1, ls1, bb⟩ := oc
          simp only at hkd ha hb hc hw8 hsl
          obtain ⟨va1, vc1, rfl, _⟩ := hsl.form
          obtain ⟨vn1, hvn1⟩ : ∃ m, ls1.length = m := ⟨_, rfl⟩
          have HSl : Hid (Sl (fun k => k < W.heap.size) (.slice va1 vn1 vc1) ls1 wr ∧ ls1.length ≤ 8796093022208) := ⟨by rw [← hvn1]; exact hsl, hw8⟩
          have HR : Hid (∀ z, Kp wr z → z.rangeAt g (off + i * 6) [.int .u8 kd, .int .i64 a0, .int .i64 b0, .int .i64 c0, .slice va1 vn1 vc1, .bool bb]) := by rw [← hvn1]; exact hrg
          clear hsl hvn1 hrg hw8
          have hL1 := HL.out.cl.fine.ls.1
          have hL2 := HL.out.cl.fine.ls.2.1
          obtain ⟨L, hL⟩ : ∃ L, s.ls.length = L := ⟨_, rfl⟩
          rw [hL] at hL1 hL2
          have HLn : Hid (∀ z, Kp wr z → Calls Tryz.prog 20 #[.pointer (some ⟨b, 0, none⟩)] z fun e w' => e = .returned (.int .i64 L) ∧ Kp z w') := fun z kz => by
            have := blen_any (HL.out.cl.bf.kp_ kz)
            rw [hL] at this
            exact this.mono (by rintro e w' ⟨rfl, m, rfl⟩; exact ⟨rfl, kp_drewN _ _⟩)
          have HIn : Hid (∀ z, Calls Tryz.prog 19 #[.agg #[.int .u8 kd, .int .i64 a0, .int .i64 b0, .int .i64 c0, .slice va1 vn1 vc1, .bool bb], .int .i64 L] z fun e w' => ∃ A C E : Int, e = .returned (.agg #[.int .u8 kd, .int .i64 A, .int .i64 C, .int .i64 E, .slice va1 vn1 vc1, .bool bb]) ∧ ((-9223372036854775808 ≤ A ∧ A < 9223372036854775808) ∧ (-9223372036854775808 ≤ C ∧ C < 9223372036854775808) ∧ (-9223372036854775808 ≤ E ∧ E < 9223372036854775808) ∧ Kp z w')) := fun z => in_any hkd ha hb hc bb hL1 (by omega)
          have hk16 : kd < 256 := hkd
          clear hkd ha hb hc
          go_upto_region 10 with fail
          go_cut [9] from 42 to 131 (fun v9 wx => ∃ (q : Nat) (A C E : Int), v9 = .pointer (some ⟨q, 0, none⟩) ∧ Hid (Lc 42 q [.int .u8 kd, .int .i64 A, .int .i64 C, .int .i64 E, .slice va1 vn1 vc1, .bool bb] wx ∧ Kp wr wx ∧ wr.heap.size ≤ q ∧ (-9223372036854775808 ≤ A ∧ A < 9223372036854775808) ∧ (-9223372036854775808 ≤ C ∧ C < 9223372036854775808) ∧ (-9223372036854775808 ≤ E ∧ E < 9223372036854775808)))
          case first =>
            refine wp_region_noPanic ?_
            refine wp_region_held_drew (S := fun z => Kp wr z) (by kernel_rfl) (kp_drew _) (fun hHeld => ?_)
            refine takeAt 0 (some 48) ?_ rfl rfl (by kernel_rfl) (by kernel_rfl) (by kernel_rfl) (fun _ _ _ h => h) (Or.inl ⟨by rfl, ?_⟩) hHeld ?_
            rotate_left
            · intro w hSw
              go_simp <;> with_reducible rfl
            try simp only [Act.put, List.setIfInBounds_toArray, List.set_cons_zero, List.set_cons_succ]
            refine takeAt 1 (some 49) ?_ rfl rfl (by kernel_rfl) (by kernel_rfl) (by kernel_rfl) (fun _ _ _ h => h) (Or.inl ⟨by rfl, ?_⟩) hHeld ?_
            rotate_left
            · intro w hSw
              go_simp <;> with_reducible rfl
            try simp only [Act.put, List.setIfInBounds_toArray, List.set_cons_zero, List.set_cons_succ]
            refine takeAt 2 (some 50) ?_ rfl rfl (by kernel_rfl) (by kernel_rfl) (by kernel_rfl) (fun _ _ _ h => h) (Or.inl ⟨by rfl, ?_⟩) hHeld ?_
            rotate_left
            · intro w hSw
              go_simp <;> with_reducible rfl
            try simp only [Act.put, List.setIfInBounds_toArray, List.set_cons_zero, List.set_cons_succ]
            refine takeAt 3 (some 51) (.agg #[.int .u8 kd, .int .i64 a0, .int .i64 b0, .int .i64 c0, .slice va1 vn1 vc1, .bool bb]) rfl rfl (by kernel_rfl) (by kernel_rfl) (by kernel_rfl) (fun _ _ _ h => h) (yieldsIf_load_mid (by rfl) 42 (.tmp 50) rfl g (off + i * 6) rfl [.int .u8 kd, .int .i64 a0, .int .i64 b0, .int .i64 c0, .slice va1 vn1 vc1, .bool bb] _ (fun z hz => HR.out z hz) Tryz.underlying42 rfl sizeOp) hHeld ?_
            try simp only [Act.put, List.setIfInBounds_toArray, List.set_cons_zero, List.set_cons_succ]
            refine takeAt 4 (some 52) ?_ rfl rfl (by kernel_rfl) (by kernel_rfl) (by kernel_rfl) (fun _ _ _ h => h) (Or.inl ⟨by rfl, ?_⟩) hHeld ?_
            rotate_left
            · intro w hSw
              go_simp <;> with_reducible rfl
            try simp only [Act.put, List.setIfInBounds_toArray, List.set_cons_zero, List.set_cons_succ]
            obtain ⟨x0, hx0⟩ : ∃ z, wr.drew = z := ⟨_, rfl⟩
            rw [hx0] at hHeld ⊢
            clear hx0
            refine wpAnyH_ready (rs := [5, 7]) (by kernel_rfl) (by simp) ?_
            refine AllReadyH.cons rfl (fun K hK => ?_) (AllReadyH.cons rfl (fun K hK => ?_) (AllReadyH.nil))
            · rw [if_pos (by rfl)]
              refine call_step 53 20 (vals := #[.pointer (some ⟨b, 0, none⟩)]) rfl rfl (by simp [Act.eval]) Tryz.func20 (by kernel_rfl) (by kernel_rfl) ?_
              refine Calls.mono (HLn.out _ hHeld) ?_
              rintro e x1 ⟨rfl, kk⟩
              have hx1 : Kp wr x1 := kp_trans hHeld kk
              refine ⟨_, rfl, ?_⟩
              refine hK.out _ _ hx1 (fun hHeld => ?_)
              clear hK K
              try simp only [Act.put, List.setIfInBounds_toArray, List.set_cons_zero, List.set_cons_succ]
              refine wpAnyH_ready (rs := [6, 7]) (by kernel_rfl) (by simp) ?_
              refine AllReadyH.cons rfl (fun K hK => ?_) (AllReadyH.cons rfl (fun K hK => ?_) (AllReadyH.nil))
              · rw [if_pos (by rfl)]
                refine call_step 54 19 (vals := #[.agg #[.int .u8 kd, .int .i64 a0, .int .i64 b0, .int .i64 c0, .slice va1 vn1 vc1, .bool bb], .int .i64 L]) rfl rfl (by simp [Act.eval]) Tryz.func19 (by kernel_rfl) (by kernel_rfl) ?_
                refine Calls.mono (HIn.out _) ?_
                rintro e x2 ⟨A, C, E, rfl, rA, rC, rE, kk⟩
                have hx2 : Kp wr x2 := kp_trans hHeld kk
                refine ⟨_, rfl, ?_⟩
                refine hK.out _ _ hx2 (fun hHeld => ?_)
                clear hK K
                try simp only [Act.put, List.setIfInBounds_toArray, List.set_cons_zero, List.set_cons_succ]
                refine wpAnyH_ready (rs := [7]) (by kernel_rfl) (by simp) ?_
                refine AllReadyH.cons rfl (fun K hK => ?_) (AllReadyH.nil)
                go_simp
                obtain ⟨q, hq⟩ : ∃ q, x2.heap.size = q := ⟨_, rfl⟩
                obtain ⟨x3, hx⟩ : ∃ z, x2.alloc (.cells #[.int .u8 0, .int .i64 0, .int .i64 0, .int .i64 0, .slice none 0 0, .bool false] 42) = z := ⟨_, rfl⟩
                have HQ3 : Hid (Lc 42 q [.int .u8 0, .int .i64 0, .int .i64 0, .int .i64 0, .slice none 0 0, .bool false] x3 ∧ wr.heap.size ≤ q) := ⟨by rw [← hx, ← hq]; exact Lc.new x2 [.int .u8 0, .int .i64 0, .int .i64 0, .int .i64 0, .slice none 0 0, .bool false] 42, by rw [← hq]; exact hHeld.size⟩
                have hx3 : Kp wr x3 := kp_trans hHeld (by rw [← hx]; exact kp_alloc _ _)
                rw [hq, hx]
                clear hq hx
                refine hK.out _ _ hx3 (fun hHeld => ?_)
                clear hK K
                try simp only [Act.put, List.setIfInBounds_toArray, List.set_cons_zero, List.set_cons_succ]
                refine wpAnyH_ready (rs := [8]) (by kernel_rfl) (by simp) ?_
                refine AllReadyH.cons rfl (fun K hK => ?_) (AllReadyH.nil)
                rw [if_pos (by rfl)]
                refine wp_store_mid 42 (.tmp 9) (.tmp 54) rfl q 0 #[.int .u8 kd, .int .i64 A, .int .i64 C, .int .i64 E, .slice va1 vn1 vc1, .bool bb] rfl rfl (HQ3.out.1.there (Nat.le_refl 6)) sizeOp (all_oneCell_toArray (by intro v hv; simp only [List.mem_cons, List.not_mem_nil, or_false] at hv; rcases hv with rfl | rfl | rfl | rfl | rfl | rfl <;> rfl)) ?_
                obtain ⟨wz, hwz⟩ : ∃ z, x3.setCells q 0 [.int .u8 kd, .int .i64 A, .int .i64 C, .int .i64 E, .slice va1 vn1 vc1, .bool bb] = z := ⟨_, rfl⟩
                have HZ : Hid (Lc 42 q [.int .u8 kd, .int .i64 A, .int .i64 C, .int .i64 E, .slice va1 vn1 vc1, .bool bb] wz ∧ Kp wr wz ∧ wr.heap.size ≤ q ∧ (-9223372036854775808 ≤ A ∧ A < 9223372036854775808) ∧ (-9223372036854775808 ≤ C ∧ C < 9223372036854775808) ∧ (-9223372036854775808 ≤ E ∧ E < 9223372036854775808)) := ⟨by rw [← hwz]; exact (HQ3.out.1.sets [.int .u8 kd, .int .i64 A, .int .i64 C, .int .i64 E, .slice va1 vn1 vc1, .bool bb] 0), kp_setsB hHeld HQ3.out.2 hwz, HQ3.out.2, rA, rC, rE⟩
                change K (Act.put _ none undef) _
                refine hK.out _ _ (by rw [hwz]; exact HZ.out.2.1) (fun hHeld => ?_)
                clear hK K
                try simp only [Act.put, List.setIfInBounds_toArray, List.set_cons_zero, List.set_cons_succ]
                rw [hwz]
                clear hwz hHeld
                refine wpAnyH_done (by kernel_rfl) ?_ _
                refine NoPanic.normal ?_
                go_wp2_with fail
                go_meet
                exact ⟨q, A, C, E, rfl, HZ⟩
              · go_simp
                obtain ⟨q, hq⟩ : ∃ q, x1.heap.size = q := ⟨_, rfl⟩
                obtain ⟨x2, hx⟩ : ∃ z, x1.alloc (.cells #[.int .u8 0, .int .i64 0, .int .i64 0, .int .i64 0, .slice none 0 0, .bool false] 42) = z := ⟨_, rfl⟩
                have HQ2 : Hid (Lc 42 q [.int .u8 0, .int .i64 0, .int .i64 0, .int .i64 0, .slice none 0 0, .bool false] x2 ∧ wr.heap.size ≤ q) := ⟨by rw [← hx, ← hq]; exact Lc.new x1 [.int .u8 0, .int .i64 0, .int .i64 0, .int .i64 0, .slice none 0 0, .bool false] 42, by rw [← hq]; exact hHeld.size⟩
                have hx2 : Kp wr x2 := kp_trans hHeld (by rw [← hx]; exact kp_alloc _ _)
                rw [hq, hx]
                clear hq hx
                refine hK.out _ _ hx2 (fun hHeld => ?_)
                clear hK K
                try simp only [Act.put, List.setIfInBounds_toArray, List.set_cons_zero, List.set_cons_succ]
                refine wpAnyH_ready (rs := [6]) (by kernel_rfl) (by simp) ?_
                refine AllReadyH.cons rfl (fun K hK => ?_) (AllReadyH.nil)
                rw [if_pos (by rfl)]
                refine call_step 54 19 (vals := #[.agg #[.int .u8 kd, .int .i64 a0, .int .i64 b0, .int .i64 c0, .slice va1 vn1 vc1, .bool bb], .int .i64 L]) rfl rfl (by simp [Act.eval]) Tryz.func19 (by kernel_rfl) (by kernel_rfl) ?_
                refine Calls.mono (HIn.out _) ?_
                rintro e x3 ⟨A, C, E, rfl, rA, rC, rE, kk⟩
                have hx3 : Kp wr x3 := kp_trans hHeld kk
                have HQ3 : Hid (Lc 42 q [.int .u8 0, .int .i64 0, .int .i64 0, .int .i64 0, .slice none 0 0, .bool false] x3 ∧ wr.heap.size ≤ q) := ⟨HQ2.out.1.kp kk, HQ2.out.2⟩
                refine ⟨_, rfl, ?_⟩
                refine hK.out _ _ hx3 (fun hHeld => ?_)
                clear hK K
                try simp only [Act.put, List.setIfInBounds_toArray, List.set_cons_zero, List.set_cons_succ]
                refine wpAnyH_ready (rs := [8]) (by kernel_rfl) (by simp) ?_
                refine AllReadyH.cons rfl (fun K hK => ?_) (AllReadyH.nil)
                rw [if_pos (by rfl)]
                refine wp_store_mid 42 (.tmp 9) (.tmp 54) rfl q 0 #[.int .u8 kd, .int .i64 A, .int .i64 C, .int .i64 E, .slice va1 vn1 vc1, .bool bb] rfl rfl (HQ3.out.1.there (Nat.le_refl 6)) sizeOp (all_oneCell_toArray (by intro v hv; simp only [List.mem_cons, List.not_mem_nil, or_false] at hv; rcases hv with rfl | rfl | rfl | rfl | rfl | rfl <;> rfl)) ?_
                obtain ⟨wz, hwz⟩ : ∃ z, x3.setCells q 0 [.int .u8 kd, .int .i64 A, .int .i64 C, .int .i64 E, .slice va1 vn1 vc1, .bool bb] = z := ⟨_, rfl⟩
                have HZ : Hid (Lc 42 q [.int .u8 kd, .int .i64 A, .int .i64 C, .int .i64 E, .slice va1 vn1 vc1, .bool bb] wz ∧ Kp wr wz ∧ wr.heap.size ≤ q ∧ (-9223372036854775808 ≤ A ∧ A < 9223372036854775808) ∧ (-9223372036854775808 ≤ C ∧ C < 9223372036854775808) ∧ (-9223372036854775808 ≤ E ∧ E < 9223372036854775808)) := ⟨by rw [← hwz]; exact (HQ3.out.1.sets [.int .u8 kd, .int .i64 A, .int .i64 C, .int .i64 E, .slice va1 vn1 vc1, .bool bb] 0), kp_setsB hHeld HQ3.out.2 hwz, HQ3.out.2, rA, rC, rE⟩
                change K (Act.put _ none undef) _
                refine hK.out _ _ (by rw [hwz]; exact HZ.out.2.1) (fun hHeld => ?_)
                clear hK K
                try simp only [Act.put, List.setIfInBounds_toArray, List.set_cons_zero, List.set_cons_succ]
                rw [hwz]
                clear hwz hHeld
                refine wpAnyH_done (by kernel_rfl) ?_ _
                refine NoPanic.normal ?_
                go_wp2_with fail
                go_meet
                exact ⟨q, A, C, E, rfl, HZ⟩
            · go_simp
              obtain ⟨q, hq⟩ : ∃ q, x0.heap.size = q := ⟨_, rfl⟩
              obtain ⟨x1, hx⟩ : ∃ z, x0.alloc (.cells #[.int .u8 0, .int .i64 0, .int .i64 0, .int .i64 0, .slice none 0 0, .bool false] 42) = z := ⟨_, rfl⟩
              have HQ1 : Hid (Lc 42 q [.int .u8 0, .int .i64 0, .int .i64 0, .int .i64 0, .slice none 0 0, .bool false] x1 ∧ wr.heap.size ≤ q) := ⟨by rw [← hx, ← hq]; exact Lc.new x0 [.int .u8 0, .int .i64 0, .int .i64 0, .int .i64 0, .slice none 0 0, .bool false] 42, by rw [← hq]; exact hHeld.size⟩
              have hx1 : Kp wr x1 := kp_trans hHeld (by rw [← hx]; exact kp_alloc _ _)
              rw [hq, hx]
              clear hq hx
              refine hK.out _ _ hx1 (fun hHeld => ?_)
              clear hK K
              try simp only [Act.put, List.setIfInBounds_toArray, List.set_cons_zero, List.set_cons_succ]
              refine wpAnyH_ready (rs := [5]) (by kernel_rfl) (by simp) ?_
              refine AllReadyH.cons rfl (fun K hK => ?_) (AllReadyH.nil)
              rw [if_pos (by rfl)]
              refine call_step 53 20 (vals := #[.pointer (some ⟨b, 0, none⟩)]) rfl rfl (by simp [Act.eval]) Tryz.func20 (by kernel_rfl) (by kernel_rfl) ?_
              refine Calls.mono (HLn.out _ hHeld) ?_
              rintro e x2 ⟨rfl, kk⟩
              have hx2 : Kp wr x2 := kp_trans hHeld kk
              have HQ2 : Hid (Lc 42 q [.int .u8 0, .int .i64 0, .int .i64 0, .int .i64 0, .slice none 0 0, .bool false] x2 ∧ wr.heap.size ≤ q) := ⟨HQ1.out.1.kp kk, HQ1.out.2⟩
              refine ⟨_, rfl, ?_⟩
              refine hK.out _ _ hx2 (fun hHeld => ?_)
              clear hK K
              try simp only [Act.put, List.setIfInBounds_toArray, List.set_cons_zero, List.set_cons_succ]
              refine wpAnyH_ready (rs := [6]) (by kernel_rfl) (by simp) ?_
              refine AllReadyH.cons rfl (fun K hK => ?_) (AllReadyH.nil)
              rw [if_pos (by rfl)]
              refine call_step 54 19 (vals := #[.agg #[.int .u8 kd, .int .i64 a0, .int .i64 b0, .int .i64 c0, .slice va1 vn1 vc1, .bool bb], .int .i64 L]) rfl rfl (by simp [Act.eval]) Tryz.func19 (by kernel_rfl) (by kernel_rfl) ?_
              refine Calls.mono (HIn.out _) ?_
              rintro e x3 ⟨A, C, E, rfl, rA, rC, rE, kk⟩
              have hx3 : Kp wr x3 := kp_trans hHeld kk
              have HQ3 : Hid (Lc 42 q [.int .u8 0, .int .i64 0, .int .i64 0, .int .i64 0, .slice none 0 0, .bool false] x3 ∧ wr.heap.size ≤ q) := ⟨HQ2.out.1.kp kk, HQ2.out.2⟩
              refine ⟨_, rfl, ?_⟩
              refine hK.out _ _ hx3 (fun hHeld => ?_)
              clear hK K
              try simp only [Act.put, List.setIfInBounds_toArray, List.set_cons_zero, List.set_cons_succ]
              refine wpAnyH_ready (rs := [8]) (by kernel_rfl) (by simp) ?_
              refine AllReadyH.cons rfl (fun K hK => ?_) (AllReadyH.nil)
              rw [if_pos (by rfl)]
              refine wp_store_mid 42 (.tmp 9) (.tmp 54) rfl q 0 #[.int .u8 kd, .int .i64 A, .int .i64 C, .int .i64 E, .slice va1 vn1 vc1, .bool bb] rfl rfl (HQ3.out.1.there (Nat.le_refl 6)) sizeOp (all_oneCell_toArray (by intro v hv; simp only [List.mem_cons, List.not_mem_nil, or_false] at hv; rcases hv with rfl | rfl | rfl | rfl | rfl | rfl <;> rfl)) ?_
              obtain ⟨wz, hwz⟩ : ∃ z, x3.setCells q 0 [.int .u8 kd, .int .i64 A, .int .i64 C, .int .i64 E, .slice va1 vn1 vc1, .bool bb] = z := ⟨_, rfl⟩
              have HZ : Hid (Lc 42 q [.int .u8 kd, .int .i64 A, .int .i64 C, .int .i64 E, .slice va1 vn1 vc1, .bool bb] wz ∧ Kp wr wz ∧ wr.heap.size ≤ q ∧ (-9223372036854775808 ≤ A ∧ A < 9223372036854775808) ∧ (-9223372036854775808 ≤ C ∧ C < 9223372036854775808) ∧ (-9223372036854775808 ≤ E ∧ E < 9223372036854775808)) := ⟨by rw [← hwz]; exact (HQ3.out.1.sets [.int .u8 kd, .int .i64 A, .int .i64 C, .int .i64 E, .slice va1 vn1 vc1, .bool bb] 0), kp_setsB hHeld HQ3.out.2 hwz, HQ3.out.2, rA, rC, rE⟩
              change K (Act.put _ none undef) _
              refine hK.out _ _ (by rw [hwz]; exact HZ.out.2.1) (fun hHeld => ?_)
              clear hK K
              try simp only [Act.put, List.setIfInBounds_toArray, List.set_cons_zero, List.set_cons_succ]
              rw [hwz]
              clear hwz hHeld
              refine wpAnyH_done (by kernel_rfl) ?_ _
              refine NoPanic.normal ?_
              go_wp2_with fail
              go_meet
              exact ⟨q, A, C, E, rfl, HZ⟩
          case rest =>
          obtain ⟨q, A, C, E, rfl, HZ⟩ := hcut
          have HT7 : Hid (LpS W.heap.size b i o a s tl (.slice ta tn tc) W wc ∧ Lc 42 q [.int .u8 kd, .int .i64 A, .int .i64 C, .int .i64 E, .slice va1 vn1 vc1, .bool bb] wc ∧ o q = .free ∧ (-9223372036854775808 ≤ A ∧ A < 9223372036854775808) ∧ (-9223372036854775808 ≤ C ∧ C < 9223372036854775808) ∧ (-9223372036854775808 ≤ E ∧ E < 9223372036854775808)) := ⟨HL.out.kpw HZ.out.2.1, HZ.out.1, HL.out.cl.bf.new HZ.out.2.2.1, HZ.out.2.2.2.1, HZ.out.2.2.2.2.1, HZ.out.2.2.2.2.2⟩
          have HS7 : Hid (Sl (fun k => k < W.heap.size) (.slice va1 vn1 vc1) ls1 wc ∧ ls1.length ≤ 8796093022208) := ⟨HSl.out.1.kp HZ.out.2.1, HSl.out.2⟩
          clear HR HLn HIn HSl HL HZ hL hL1 hL2 hgB
          have c0 : wc.cell? ⟨q, 0, none⟩ = some (.int .u8 kd) := HT7.out.2.1.at (j := 0) rfl
          have c1 : wc.cell? ⟨q, 1, none⟩ = some (.int .i64 A) := HT7.out.2.1.at (j := 1) rfl
          have c2 : wc.cell? ⟨q, 2, none⟩ = some (.int .i64 C) := HT7.out.2.1.at (j := 2) rfl
          have c3 : wc.cell? ⟨q, 3, none⟩ = some (.int .i64 E) := HT7.out.2.1.at (j := 3) rfl
          have c4 : wc.cell? ⟨q, 4, none⟩ = some (.slice va1 vn1 vc1) := HT7.out.2.1.at (j := 4) rfl
          have hi60 : i < 60 := by omega
          go_upto_block 2 with fail
          go_cut [] from 42 to 131 (fun wx => ∃ (o : Tz.Own) (a : At) (s : BS), Hid (LpO W.heap.size b i o a s tl (.slice ta tn tc) W wx))
          case first =>
            by_cases q9 : kd % 14 = 9
            · as_aux_lemma =>
              have d9 : ((kd : Int) % 14 == 9) = true := by rw [beq_iff_eq]; omega
              have HU : Hid _ := HT7.out.1.cl.undo2 (by omega)
              clear HS7
              go_wp2_with fail
              refine Calls.mono HU.out ?_
              rintro e w8 ⟨⟨err, rfl⟩, o', a', s', H8⟩
              have HX : Hid (LpO W.heap.size b i o' a' s' tl (.slice ta tn tc) W w8) := HT7.out.1.step H8.out.1 H8.out.2.1 H8.out.2.2
              clear HU H8 HT7
              go_wp2_with fail
              go_meet
              exact ⟨_, _, _, HX⟩
            by_cases q10 : kd % 14 = 10
            · as_aux_lemma =>
              have d9 : ((kd : Int) % 14 == 9) = false := by rw [beq_eq_false_iff_ne]; omega
              have d10 : ((kd : Int) % 14 == 10) = true := by rw [beq_iff_eq]; omega
              have HU : Hid _ := HT7.out.1.cl.redo2 (by omega)
              clear HS7
              go_wp2_with fail
              refine Calls.mono HU.out ?_
              rintro e w8 ⟨⟨err, rfl⟩, o', a', s', H8⟩
              have HX : Hid (LpO W.heap.size b i o' a' s' tl (.slice ta tn tc) W w8) := HT7.out.1.step H8.out.1 H8.out.2.1 H8.out.2.2
              clear HU H8 HT7
              go_wp2_with fail
              go_meet
              exact ⟨_, _, _, HX⟩
            by_cases q4 : kd % 14 = 4
            · as_aux_lemma =>
              have d9 : ((kd : Int) % 14 == 9) = false := by rw [beq_eq_false_iff_ne]; omega
              have d10 : ((kd : Int) % 14 == 10) = false := by rw [beq_eq_false_iff_ne]; omega
              have d4 : ((kd : Int) % 14 == 4) = true := by rw [beq_iff_eq]; omega
              have HU : Hid _ := HT7.out.1.cl.move2 (by omega) (x := A) (y := C) (z := E) HT7.out.2.2.2.1 HT7.out.2.2.2.2.1 HT7.out.2.2.2.2.2
              clear HS7
              go_wp2_with fail
              refine Calls.mono HU.out ?_
              rintro e w8 ⟨⟨err, rfl⟩, o', a', s', H8⟩
              have HX : Hid (LpO W.heap.size b i o' a' s' tl (.slice ta tn tc) W w8) := HT7.out.1.step H8.out.1 H8.out.2.1 H8.out.2.2
              clear HU H8 HT7
              go_wp2_with fail
              go_meet
              exact ⟨_, _, _, HX⟩
            by_cases q5 : kd % 14 = 5
            · as_aux_lemma =>
              have d9 : ((kd : Int) % 14 == 9) = false := by rw [beq_eq_false_iff_ne]; omega
              have d10 : ((kd : Int) % 14 == 10) = false := by rw [beq_eq_false_iff_ne]; omega
              have d4 : ((kd : Int) % 14 == 4) = false := by rw [beq_eq_false_iff_ne]; omega
              have d5 : ((kd : Int) % 14 == 5) = true := by rw [beq_iff_eq]; omega
              have HU : Hid _ := HT7.out.1.cl.move2 (by omega) (x := A) (y := C) (z := E) HT7.out.2.2.2.1 HT7.out.2.2.2.2.1 HT7.out.2.2.2.2.2
              clear HS7
              go_wp2_with fail
              refine Calls.mono HU.out ?_
              rintro e w8 ⟨⟨err, rfl⟩, o', a', s', H8⟩
              have HX : Hid (LpO W.heap.size b i o' a' s' tl (.slice ta tn tc) W w8) := HT7.out.1.step H8.out.1 H8.out.2.1 H8.out.2.2
              clear HU H8 HT7
              go_wp2_with fail
              go_meet
              exact ⟨_, _, _, HX⟩
            · as_aux_lemma =>
              have d9 : ((kd : Int) % 14 == 9) = false := by rw [beq_eq_false_iff_ne]; omega
              have d10 : ((kd : Int) % 14 == 10) = false := by rw [beq_eq_false_iff_ne]; omega
              have d4 : ((kd : Int) % 14 == 4) = false := by rw [beq_eq_false_iff_ne]; omega
              have d5 : ((kd : Int) % 14 == 5) = false := by rw [beq_eq_false_iff_ne]; omega
              have HU : Hid _ := HT7.out.1.cl.splice2 (by omega) (A := A) (C := C) HT7.out.2.2.2.1 HT7.out.2.2.2.2.1 HS7.out.1 HS7.out.2
              clear HS7
              go_wp2_with fail
              refine Calls.mono HU.out ?_
              rintro e w8 ⟨⟨err, rfl⟩, o', a', s', H8⟩
              have HX : Hid (LpO W.heap.size b i o' a' s' tl (.slice ta tn tc) W w8) := HT7.out.1.step H8.out.1 H8.out.2.1 H8.out.2.2
              clear HU H8 HT7
              go_wp2_with fail
              go_meet
              exact ⟨_, _, _, HX⟩
          case rest =>
          obtain ⟨o, a, s, HO1⟩ := hcut
          clear HT7 HS7 c0 c1 c2 c3 c4
          have HCm : Hid _ := HO1.out.op.commit2 (by omega)
          go_wp2_with fail
          refine Calls.mono HCm.out ?_
          rintro e w8 ⟨nn, is, rfl, a8, s8, H8⟩
          have htn : tl.length = tn := by
            obtain ⟨a', c', e, _⟩ := HO1.out.tx.form
            simp only [Value.slice.injEq] at e
            exact e.2.1.symm
          have HX : Hid ((is = false ∧ LpS W.heap.size b (i + 1) o a8 s8 tl (.slice ta tn tc) W w8) ∨ (is = true ∧ nn = (tn : Int) ∧ LpY W.heap.size b i o a8 s8 tl (.slice ta tn tc) W w8)) := by
            obtain ⟨q1, q2, q3, q4, q5⟩ := H8.out
            rcases q5 with ⟨rfl, q5⟩ | ⟨rfl, q6, q7, q8⟩
            · exact .inl ⟨rfl, HO1.out.no q1 q2 q5⟩
            · exact .inr ⟨rfl, by rw [q6, HO1.out.nx, htn], HO1.out.yes q1 q2 q3 q4 q7 q8⟩
          clear HCm H8 HO1
          go_upto_if 90 with fail
          go_cut [7] from 42 to 131 (fun v7 wx => ∃ (a : At) (s : BS) (tl : List (List ByteArray)) (ta : Option Addr) (tn tc : Nat), v7 = .slice ta tn tc ∧ Hid (LpS W.heap.size b (i + 1) o a s tl (.slice ta tn tc) W wx))
          case first =>
            rcases HX.out with ⟨rfl, h⟩ | ⟨rfl, rfl, h⟩
            · as_aux_lemma =>
              have H9 : Hid _ := h
              clear h HX
              go_wp2_with fail
              go_meet
              exact ⟨_, _, _, _, _, _, rfl, H9⟩
            · as_aux_lemma =>
              have HY : Hid (LpY W.heap.size b i o a8 s8 tl (.slice ta tn tc) W w8) := h
              clear h HX
              have hneq : ((tn : Int) != (tn : Int)) = false := by simp
              have htn9 : tn ≤ 200 := by
                have h1 := HY.out.cl.nx
                have h2 := HY.out.nx
                omega
              obtain ⟨L8, hL8⟩ : ∃ L, s8.ls.length = L := ⟨_, rfl⟩
              have HLi : Hid (Calls Tryz.prog 14 #[.pointer (some ⟨b, 0, none⟩)] w8 fun e w' => ∃ gb, e = .returned (.slice (some ⟨gb, 0, none⟩) L8 L8) ∧ Row w8.heap.size (.slice (some ⟨gb, 0, none⟩) L8 L8) s8.ls w' ∧ Kp w8 w') := by
                have := blinesL HY.out.cl.bf (by have := HY.out.cl.fine.ls.2.1; omega)
                rw [hL8] at this; exact this
              go_wp2_with fail
              refine Calls.mono HLi.out ?_
              rintro e w9 ⟨gb, rfl, r9, k9⟩
              obtain ⟨p, hp⟩ : ∃ p, w9.heap.size = p := ⟨_, rfl⟩
              obtain ⟨W10, hW10⟩ : ∃ z, w9.alloc (.cells #[.slice (some ⟨gb, 0, none⟩) L8 L8] 22) = z := ⟨_, rfl⟩
              have k10 : Kp w9 W10 := by rw [← hW10]; exact kp_alloc _ _
              have b10 : Lc 22 p [.slice (some ⟨gb, 0, none⟩) L8 L8] W10 := by rw [← hW10, ← hp]; exact Lc.new w9 [.slice (some ⟨gb, 0, none⟩) L8 L8] 22
              have hy10 := HY.out.kpw (kp_trans k9 k10)
              have r10 : RQ (Fre o) (.slice (some ⟨gb, 0, none⟩) L8 L8) s8.ls W10 := (row_rq HY.out.cl.bf (Nat.le_refl _) r9).kpo k10
              obtain ⟨vs, v1, v2, v3, v4⟩ := hy10.tx
              have HROW : Hid (W10.ownsRow W.heap.size 22 1 (.slice ta tn tc) tn vs) := by rw [htn] at v2; exact v2
              have HNEW : Hid (∀ j u, ([.slice (some ⟨gb, 0, none⟩) L8 L8] : List Value)[j]? = some u → W10.cell? ((⟨p, 0, none⟩ : Addr).add j) = some u) := fun j u hj => by
                rw [add2, Nat.zero_add]; exact b10.at hj
              have HBW : Hid (W.heap.size ≤ W10.heap.size) := hy10.hB
              have HPX : Hid (∀ v10 w10, w10.ownsRow W.heap.size 22 1 v10 (tn + 1) (vs ++ [.slice (some ⟨gb, 0, none⟩) L8 L8]) → W10.grownBy w10 (Value.slice ta tn tc).ownBlock → ∃ a10 c10, v10 = .slice a10 (tn + 1) c10 ∧ Hid (LpS W.heap.size b (i + 1) o a8 s8 (tl ++ [s8.ls]) (.slice a10 (tn + 1) c10) W w10)) := fun v10 w10 x1 x2 => by
                obtain ⟨a10, c10, rfl, _, _⟩ := owns_form x1
                exact ⟨a10, c10, rfl, hy10.added r10 v1 v2 v4 (by rw [htn]; exact x1) x2⟩
              obtain ⟨i9, hi9, z0, z1, z2⟩ := info_parts infoStrs
              clear HLi r9 k9 k10 b10 hy10 r10 v1 v2 v3 v4 HY hL8 htn
              go_wp2_with (at_builtin; refine wpList_append_own _ rfl (.tmp 95) (.tmp 98) 63 rfl W.heap.size 22 i9 _ 1 24 Tryz.underlying63 hi9 z0 z1 z2 rfl (by decide) (.slice ta tn tc) tn vs rfl HROW.out ⟨p, 0, none⟩ 1 1 [.slice (some ⟨gb, 0, none⟩) L8 L8] rfl rfl HNEW.out (by simp [Value.oneCell']) (by unfold maxLen; omega) (by omega) HBW.out ?_; intro v10 w10 x1 x2 _; obtain ⟨a10, c10, rfl, H10⟩ := HPX.out v10 w10 x1 x2; clear x1 x2)
              go_meet
              exact ⟨_, _, _, _, _, _, rfl, H10⟩
          case rest =>
          clear HX htn
          obtain ⟨a, s, tl, ta, tn, tc, rfl, HL⟩ := hcut
          as_aux_lemma =>
            obtain ⟨L, hL⟩ : ∃ L, s.ls.length = L := ⟨_, rfl⟩
            obtain ⟨cu, hcu⟩ : ∃ c, s.cur = c := ⟨_, rfl⟩
            obtain ⟨u, hu⟩ : ∃ c, a.u = c := ⟨_, rfl⟩
            obtain ⟨nw, hnw⟩ : ∃ k : Nat, s.m.now = (k : Int) := by
              obtain ⟨st, hs⟩ := HL.out.cl.st
              have := HL.out.cl.bf.st.inw.inv.fam.fr _ _ hs
              exact ⟨s.m.now.toNat, by omega⟩
            have hlt2 : s.m.now < (tl.length : Int) := by
              obtain ⟨st, hs⟩ := HL.out.cl.st
              have := HL.out.cl.bf.st.inw.inv.fam.fr _ _ hs
              have := HL.out.nx
              omega
            have hap : s.T nw = s.ls := by
              have := HL.out.cl.fine.ap
              rw [HL.out.cl.op, hnw] at this
              exact Option.some.inj this
            obtain ⟨lsn, hln⟩ : ∃ ls, tl[nw]? = some ls := ⟨_, List.getElem?_eq_getElem (by omega)⟩
            have hls := HL.out.tt nw lsn hln
            rw [hap] at hls
            subst hls
            obtain ⟨tg, uu, rfl, htl, ct, rt⟩ := HL.out.tx.at_ hln
            obtain ⟨xa, xc, rfl, _, _⟩ := Row.form rt.1
            rw [hL] at ct rt
            have hnt : nw < tn := by omega
            have hc1 := HL.out.cl.fine.cur
            have hL1 := HL.out.cl.fine.ls.1
            have hL2 := HL.out.cl.fine.ls.2.1
            rw [hcu, hL] at hc1
            rw [hL] at hL1 hL2
            have HLi : Hid (∀ z, Kp wc z → Calls Tryz.prog 14 #[.pointer (some ⟨b, 0, none⟩)] z fun e w' => ∃ gb, e = .returned (.slice (some ⟨gb, 0, none⟩) L L) ∧ Row z.heap.size (.slice (some ⟨gb, 0, none⟩) L L) s.ls w' ∧ Kp z w') := fun z kz => by
              have := blinesL (HL.out.cl.bf.kp_ kz) (by rw [hL]; omega)
              rw [hL] at this; exact this
            have HSt : Hid (∀ z, Kp wc z → Calls Tryz.prog 35 #[.pointer (some ⟨b, 0, none⟩)] z fun e w' => e = .returned (.pointer (some ⟨u, 0, none⟩)) ∧ w' = z) := fun z kz => by
              have := bstates_any (HL.out.cl.bf.kp_ kz)
              rw [hu] at this; exact this
            have HNw : Hid (∀ z, Kp wc z → Calls Tryz.prog 36 #[.pointer (some ⟨u, 0, none⟩)] z fun e w' => e = .returned (.int .i64 (nw : Int)) ∧ w' = z) := fun z kz => by
              have := now_any (HL.out.cl.bf.kp_ kz).st.tw
              rw [hu, hnw] at this; exact this
            have HSm : Hid (∀ z gb D, Kp wc z → Row D (.slice (some ⟨gb, 0, none⟩) L L) s.ls z → Calls Tryz.prog 13 #[.slice (some ⟨gb, 0, none⟩) L L, .slice xa L xc] z fun e w' => e = .returned (.bool true) ∧ ∃ q, w' = z.drewN q) := fun z gb D kz r => o2same_eq ((Sl.of_row r).mono (Q := fun _ => True) fun _ _ _ => trivial) ((Sl.of_row (row_kp rt.1 kz)).mono (Q := fun _ => True) fun _ _ _ => trivial)
            have HLe : Hid (∀ z, Kp wc z → Calls Tryz.prog 20 #[.pointer (some ⟨b, 0, none⟩)] z fun e w' => e = .returned (.int .i64 L) ∧ Kp z w') := fun z kz => by
              have := blen_any (HL.out.cl.bf.kp_ kz)
              rw [hL] at this
              exact this.mono (by rintro e w' ⟨rfl, m, rfl⟩; exact ⟨rfl, kp_drewN _ _⟩)
            have HCu : Hid (∀ z, Kp wc z → Calls Tryz.prog 25 #[.pointer (some ⟨b, 0, none⟩)] z fun e w' => e = .returned (.int .i64 cu) ∧ Kp z w') := fun z kz => by
              have := bcursor_any (HL.out.cl.bf.kp_ kz)
              rw [hcu] at this
              exact this.mono (by rintro e w' ⟨rfl, rfl⟩; exact ⟨rfl, Below.refl _ _⟩)
            have g5 : decide ((L : Int) < 1) = false := decide_eq_false (by omega)
            have g6 : decide ((L : Int) > 2000) = false := decide_eq_false (by omega)
            have g7 : decide ((2000 : Int) < (L : Int)) = false := decide_eq_false (by omega)
            have g8 : decide (cu < 1) = false := decide_eq_false (by omega)
            have g9 : decide (cu > (L : Int)) = false := decide_eq_false (by omega)
            have g10 : decide ((L : Int) < cu) = false := decide_eq_false (by omega)
            have g11 : decide (L < 1) = false := decide_eq_false (by omega)
            have g12 : decide (2000 < L) = false := decide_eq_false (by omega)
            clear hL hcu hu hnw hlt2 hap hln rt htl hc1
            go_wp2_with fail
            refine Calls.mono (HLi.out _ (Below.refl _ _)) ?_
            rintro e w9 ⟨gb, rfl, r9, k9⟩
            have HK9 : Hid (Kp wc w9) := k9
            have HS9 : Hid _ := HSm.out w9 gb _ k9 r9
            have ct9 := kp_cell k9 ct
            clear HLi HSm r9 k9
            go_wp2_with fail
            refine Calls.mono (HSt.out _ HK9.out) ?_
            rintro e w10 ⟨rfl, rfl⟩
            go_wp2_with fail
            refine Calls.mono (HNw.out _ HK9.out) ?_
            rintro e w11 ⟨rfl, rfl⟩
            clear HSt HNw
            go_wp2_with fail
            refine Calls.mono HS9.out ?_
            rintro e w12 ⟨rfl, q12, rfl⟩
            have HKA : Hid (Kp wc (w11.drewN q12)) := kp_trans HK9.out (kp_drewN _ _)
            clear HS9 HK9 ct ct9
            go_wp2_with fail
            refine Calls.mono (HLe.out _ HKA.out) ?_
            rintro e w13 ⟨rfl, k13⟩
            have HKB : Hid (Kp wc w13) := kp_trans HKA.out k13
            clear k13 HKA
            go_wp2_with fail
            refine Calls.mono (HLe.out _ HKB.out) ?_
            rintro e w14 ⟨rfl, k14⟩
            have HKC : Hid (Kp wc w14) := kp_trans HKB.out k14
            clear k14 HKB
            go_wp2_with fail
            refine Calls.mono (HCu.out _ HKC.out) ?_
            rintro e w15 ⟨rfl, k15⟩
            have HKD : Hid (Kp wc w15) := kp_trans HKC.out k15
            clear k15 HKC
            go_wp2_with fail
            refine Calls.mono (HCu.out _ HKD.out) ?_
            rintro e w16 ⟨rfl, k16⟩
            have HKE : Hid (Kp wc w16) := kp_trans HKD.out k16
            clear k16 HKD HCu
            go_wp2_with fail
            refine Calls.mono (HLe.out _ HKE.out) ?_
            rintro e w17 ⟨rfl, k17⟩
            have HXX : Hid (LpS W.heap.size b (i + 1) o a s tl (.slice (some ⟨tg, 0, none⟩) tn tc) W w17) := HL.out.kpw (kp_trans HKE.out k17)
            clear k17 HKE HLe HL
            go_wp2_with fail
            go_roundw
            case rel => exact ⟨i + 1, o, a, s, tl, _, _, _, by omega, by go_num, rfl, HXX⟩
            case measure => simp only [intOf]; omega
        · obtain rfl : i = N := by omega
          have g1 : decide ((i : Int) < (i : Int)) = false := by simp
          have HSt : Hid (Calls Tryz.prog 35 #[.pointer (some ⟨b, 0, none⟩)] wr fun e w' => e = .returned (.pointer (some ⟨a.u, 0, none⟩)) ∧ w' = wr) := bstates_any HL.out.cl.bf
          have HSs : Hid (Calls Tryz.prog 37 #[.pointer (some ⟨a.u, 0, none⟩)] wr fun e w' => ∃ v, e = .returned v ∧ Sr wr.heap.size v s.m.L w' ∧ Kp wr w') := states_any HL.out.cl.bf.st.tw HL.out.cl.bf.st.inw.inv.fam (by have := HL.out.cl.bf.st.nx; omega) (by have := HL.out.cl.bf.st.ln; have := HL.out.mo; omega) HL.out.cl.bf.st.inw.inv.sq
          obtain ⟨u, hu⟩ : ∃ c, a.u = c := ⟨_, rfl⟩
          rw [hu] at HSt HSs
          clear hu
          go_wp2_with fail
          refine Calls.mono HSt.out ?_
          rintro e w4 ⟨rfl, rfl⟩
          clear HSt
          go_wp2_with fail
          refine Calls.mono HSs.out ?_
          rintro e w5 ⟨sv, rfl, rs, ks⟩
          clear HSs
          obtain ⟨sa, sc, rfl, hsc1, hsc2⟩ := owns_form rs
          clear hsc1 hsc2
          have hg0 := lpg_first HL.out rs ks
          obtain ⟨L0, hL0⟩ : ∃ L, s.m.L = L := ⟨_, rfl⟩
          obtain ⟨K, hK⟩ : ∃ L, s.m.L.length = L := ⟨_, rfl⟩
          rw [hK] at hg0 ⊢
          rw [hL0] at hg0
          have HG0 : Hid (LpG W.heap.size b i 0 o a s L0 (.slice sa K sc) tl (.slice ta tn tc) W w5) := hg0
          have HKL : Hid (K = L0.length) := by rw [← hK, hL0]; exact rfl
          have hK30 : K ≤ 30 := by rw [HKL.out]; exact HG0.out.le
          clear hg0 hL0 hK rs ks HL
          go_wp2_with fail
          go_loopw [13] (fun v13 wr => ∃ (j : Nat) (o : Tz.Own) (a : At) (s : BS), j ≤ K ∧ v13 = .int .i64 j ∧ Hid (LpG W.heap.size b i j o a s L0 (.slice sa K sc) tl (.slice ta tn tc) W wr)) (fun v13 _ => K - (intOf v13).toNat)
          case atStart => exact ⟨0, o, a, s, Nat.zero_le _, rfl, HG0⟩
          case round =>
            clear HG0
            obtain ⟨j, o, a, s, hj, rfl, HG⟩ := hrel
            by_cases hjt : j < K
            · as_aux_lemma =>
              have g1 : decide ((j : Int) < (K : Int)) = true := decide_eq_true (by omega)
              have g2 : decide (j < K) = true := decide_eq_true hjt
              obtain ⟨sg, tg, sq, xa, xc, lq, rfl, rfl, hlk, hTq, hsn, _, hall⟩ := HG.out.at_ (by rw [← HKL.out]; exact hjt)
              obtain ⟨ln, hln⟩ : ∃ n, lq.length = n := ⟨_, rfl⟩
              rw [hln] at hall
              have HA : Hid _ := hall
              have HTq : Hid (s.T (sq : Int) = lq) := hTq
              have hl60 : 2 * s.m.L.length ≤ 60 := by
                have e := congrArg List.length HG.out.sq
                rw [List.length_map, List.length_map] at e
                have := HG.out.le
                omega
              have hsq9 : (sq : Int) < 1000000 := by
                obtain ⟨st, hst⟩ := Option.ne_none_iff_exists'.1 hlk
                have := HG.out.cl.bf.st.inw.inv.fam.fr _ _ hst
                have := HG.out.cl.bf.st.nx
                omega
              have HGo : Hid (Calls Tryz.prog 38 #[.pointer (some ⟨b, 0, none⟩), .int .i64 (sq : Int)] wr.drew fun e w' => e = .returned (.int .u16 0) ∧ ∃ o' a' s', Hid (Clm W.heap.size b o' (50000 + 180000 * i + 5400000 * j + 90000 * 60) a' s' (1 + i) w' ∧ FK W.heap.size o o' wr.drew w' ∧ SmT s s' ∧ s'.ls = s.T (sq : Int) ∧ s'.m.L.map St.seq = s.m.L.map St.seq)) := (HG.out.kpw (kp_drew wr)).cl.go2 (by decide) (by omega) hl60 ⟨by omega, by omega⟩ hlk
              have g3 : decide ((sq : Int) < (tn : Int)) = true := decide_eq_true (by omega)
              have g4 : decide (sq < tn) = true := decide_eq_true hsn
              have HLq : Hid (lq.length = ln) := hln
              have hsq0 : (sq : Int) < 9223372036854775807 := by omega
              clear hall hTq hlk hl60 hln hsq9
              clear hsq0 hj hi hlt
              go_upto_region 31 with fail
              refine wp_region_noPanic ?_
              refine wp_region_held_drew (S := fun z => z.cell? ⟨sg, j * 2, none⟩ = some (.int .i64 (sq : Int)) ∧ z.cell? ⟨tg, sq, none⟩ = some (.slice xa ln xc)) (by kernel_rfl) (⟨(HA.out _ _ (FK.kp (kp_drew wr) o)).1, (HA.out _ _ (FK.kp (kp_drew wr) o)).2.1⟩) (fun hHeld => ?_)
              refine takeAt 0 (some 141) ?_ rfl rfl (by kernel_rfl) (by kernel_rfl) (by kernel_rfl) (fun _ _ _ h => h) (Or.inl ⟨by rfl, ?_⟩) hHeld ?_
              rotate_left
              · intro w hSw
                go_simp <;> with_reducible rfl
              try simp only [Act.put, List.setIfInBounds_toArray, List.set_cons_zero, List.set_cons_succ]
              refine takeAt 1 (some 142) ?_ rfl rfl (by kernel_rfl) (by kernel_rfl) (by kernel_rfl) (fun _ _ _ h => h) (Or.inl ⟨by rfl, ?_⟩) hHeld ?_
              rotate_left
              · intro w hSw
                go_simp <;> with_reducible rfl
              try simp only [Act.put, List.setIfInBounds_toArray, List.set_cons_zero, List.set_cons_succ]
              refine takeAt 2 (some 143) ?_ rfl rfl (by kernel_rfl) (by kernel_rfl) (by kernel_rfl) (fun _ _ _ h => h) (Or.inl ⟨by rfl, ?_⟩) hHeld ?_
              rotate_left
              · intro w hSw
                go_simp <;> with_reducible rfl
              try simp only [Act.put, List.setIfInBounds_toArray, List.set_cons_zero, List.set_cons_succ]
              refine takeAt 3 (some 144) ?_ rfl rfl (by kernel_rfl) (by kernel_rfl) (by kernel_rfl) (fun _ _ _ h => h) (Or.inl ⟨by rfl, ?_⟩) hHeld ?_
              rotate_left
              · intro w hSw
                go_simp <;> with_reducible rfl
              try simp only [Act.put, List.setIfInBounds_toArray, List.set_cons_zero, List.set_cons_succ]
              refine takeAt 4 (some 145) ?_ rfl rfl (by kernel_rfl) (by kernel_rfl) (by kernel_rfl) (fun _ _ _ h => h) (Or.inl ⟨by rfl, ?_⟩) hHeld ?_
              rotate_left
              · intro w hSw
                go_simp <;> with_reducible rfl
              try simp only [Act.put, List.setIfInBounds_toArray, List.set_cons_zero, List.set_cons_succ]
              refine takeAt 5 (some 146) ?_ rfl rfl (by kernel_rfl) (by kernel_rfl) (by kernel_rfl) (fun _ _ _ h => h) (Or.inl ⟨by rfl, ?_⟩) hHeld ?_
              rotate_left
              · intro w hSw
                go_simp <;> with_reducible rfl
              try simp only [Act.put, List.setIfInBounds_toArray, List.set_cons_zero, List.set_cons_succ]
              refine callAt 6 147 38 (vals := #[.pointer (some ⟨b, 0, none⟩), .int .i64 (sq : Int)]) (by kernel_rfl) rfl rfl rfl rfl (by simp [Act.eval]) Tryz.func38 (by kernel_rfl) (by kernel_rfl) ?_
              refine Calls.mono (HGo.out) ?_
              rintro e w5 ⟨rfl, o5, a5, s5, H5⟩
              obtain ⟨x1, x2, x3⟩ := HA.out _ _ ((FK.kp (kp_drew wr) o).trans H5.out.2.1)
              have HA5 : Hid (w5.cell? ⟨sg, j * 2, none⟩ = some (.int .i64 (sq : Int)) ∧ w5.cell? ⟨tg, sq, none⟩ = some (.slice xa ln xc)) := ⟨x1, x2⟩
              have HR5 : Hid (RQ (Fre o5) (.slice xa ln xc) lq w5) := x3
              have HG5 : Hid (LpG W.heap.size b i (j + 1) o5 a5 s5 L0 (.slice (some ⟨sg, 0, none⟩) K sc) tl (.slice (some ⟨tg, 0, none⟩) tn tc) W w5 ∧ s5.ls = lq) := ⟨(HG.out.kpw (kp_drew wr)).step H5.out.1 (by omega) H5.out.2.1 H5.out.2.2.1 H5.out.2.2.2.2, by rw [H5.out.2.2.2.1]; exact HTq.out⟩
              have HLi : Hid (Calls Tryz.prog 14 #[.pointer (some ⟨b, 0, none⟩)] w5 fun e w' => ∃ gb, e = .returned (.slice (some ⟨gb, 0, none⟩) ln ln) ∧ Row w5.heap.size (.slice (some ⟨gb, 0, none⟩) ln ln) lq w' ∧ Kp w5 w') := by
                have := blinesL HG5.out.1.cl.bf (by have := HG5.out.1.cl.fine.ls.2.1; omega)
                rw [HG5.out.2, HLq.out] at this; exact this
              clear H5 HGo HG HTq HA x1 x2 x3
              refine ⟨_, rfl, HA5.out, fun hHeld => ?_⟩
              try simp only [Act.put, List.setIfInBounds_toArray, List.set_cons_zero, List.set_cons_succ]
              refine takeAt 7 (some 148) ?_ rfl rfl (by kernel_rfl) (by kernel_rfl) (by kernel_rfl) (fun _ _ _ h => h) (Or.inl ⟨by rfl, ?_⟩) hHeld ?_
              rotate_left
              · intro w hSw
                go_simp <;> with_reducible rfl
              try simp only [Act.put, List.setIfInBounds_toArray, List.set_cons_zero, List.set_cons_succ]
              refine takeAt 8 (some 149) ?_ rfl rfl (by kernel_rfl) (by kernel_rfl) (by kernel_rfl) (fun _ _ _ h => h) (Or.inl ⟨by rfl, ?_⟩) hHeld ?_
              rotate_left
              · intro w hSw
                go_simp <;> with_reducible rfl
              try simp only [Act.put, List.setIfInBounds_toArray, List.set_cons_zero, List.set_cons_succ]
              refine takeAt 9 (some 150) ?_ rfl rfl (by kernel_rfl) (by kernel_rfl) (by kernel_rfl) (fun _ _ _ h => h) (Or.inl ⟨by rfl, ?_⟩) hHeld ?_
              rotate_left
              · intro w hSw
                go_simp <;> with_reducible rfl
              try simp only [Act.put, List.setIfInBounds_toArray, List.set_cons_zero, List.set_cons_succ]
              refine takeAt 11 (some 152) ?_ rfl rfl (by kernel_rfl) (by kernel_rfl) (by kernel_rfl) (fun _ _ _ h => h) (Or.inl ⟨by rfl, ?_⟩) hHeld ?_
              rotate_left
              · intro w hSw
                go_simp <;> with_reducible rfl
              try simp only [Act.put, List.setIfInBounds_toArray, List.set_cons_zero, List.set_cons_succ]
              refine takeAt 12 (some 153) ?_ rfl rfl (by kernel_rfl) (by kernel_rfl) (by kernel_rfl) (fun _ _ _ h => h) (Or.inl ⟨by rfl, ?_⟩) hHeld ?_
              rotate_left
              · intro w hSw
                go_simp <;> with_reducible rfl
              try simp only [Act.put, List.setIfInBounds_toArray, List.set_cons_zero, List.set_cons_succ]
              refine takeAt 13 (some 154) ?_ rfl rfl (by kernel_rfl) (by kernel_rfl) (by kernel_rfl) (fun _ _ _ h => h) (Or.inl ⟨by rfl, ?_⟩) hHeld ?_
              rotate_left
              · intro w hSw
                go_simp <;> with_reducible rfl
              try simp only [Act.put, List.setIfInBounds_toArray, List.set_cons_zero, List.set_cons_succ]
              refine takeAt 14 (some 155) ?_ rfl rfl (by kernel_rfl) (by kernel_rfl) (by kernel_rfl) (fun _ _ _ h => h) (Or.inl ⟨by rfl, ?_⟩) hHeld ?_
              rotate_left
              · intro w hSw
                go_simp <;> with_reducible rfl
              try simp only [Act.put, List.setIfInBounds_toArray, List.set_cons_zero, List.set_cons_succ]
              refine takeAt 15 (some 156) ?_ rfl rfl (by kernel_rfl) (by kernel_rfl) (by kernel_rfl) (fun _ _ _ h => h) (Or.inl ⟨by rfl, ?_⟩) hHeld ?_
              rotate_left
              · intro w hSw
                go_simp <;> with_reducible rfl
              try simp only [Act.put, List.setIfInBounds_toArray, List.set_cons_zero, List.set_cons_succ]
              refine takeAt 16 (some 157) ?_ rfl rfl (by kernel_rfl) (by kernel_rfl) (by kernel_rfl) (fun _ _ _ h => h) (Or.inl ⟨by rfl, ?_⟩) hHeld ?_
              rotate_left
              · intro w hSw
                go_simp <;> with_reducible rfl
              try simp only [Act.put, List.setIfInBounds_toArray, List.set_cons_zero, List.set_cons_succ]
              refine takeAt 17 (some 158) ?_ rfl rfl (by kernel_rfl) (by kernel_rfl) (by kernel_rfl) (fun _ _ _ h => h) (Or.inl ⟨by rfl, ?_⟩) hHeld ?_
              rotate_left
              · intro w hSw
                go_simp <;> with_reducible rfl
              try simp only [Act.put, List.setIfInBounds_toArray, List.set_cons_zero, List.set_cons_succ]
              refine takeAt 18 (some 159) ?_ rfl rfl (by kernel_rfl) (by kernel_rfl) (by kernel_rfl) (fun _ _ _ h => h) (Or.inl ⟨by rfl, ?_⟩) hHeld ?_
              rotate_left
              · intro w hSw
                go_simp <;> with_reducible rfl
              try simp only [Act.put, List.setIfInBounds_toArray, List.set_cons_zero, List.set_cons_succ]
              refine callAtG 10 151 14 (vals := #[.pointer (some ⟨b, 0, none⟩)]) (by kernel_rfl) rfl rfl rfl (by rfl) (by simp [Act.eval]) Tryz.func14 (by kernel_rfl) (by kernel_rfl) ?_
              refine Calls.mono (HLi.out) ?_
              rintro e w6 ⟨gb, rfl, r6, k6⟩
              have HA6 : Hid (w6.cell? ⟨sg, j * 2, none⟩ = some (.int .i64 (sq : Int)) ∧ w6.cell? ⟨tg, sq, none⟩ = some (.slice xa ln xc)) := ⟨kp_cell k6 HA5.out.1, kp_cell k6 HA5.out.2⟩
              have HK6 : Hid (Kp w5 w6) := k6
              have HSm : Hid (Calls Tryz.prog 13 #[.slice (some ⟨gb, 0, none⟩) ln ln, .slice xa ln xc] w6 fun e w' => e = .returned (.bool true) ∧ ∃ q, w' = w6.drewN q) := o2same_eq ((Sl.of_row r6).mono (Q := fun _ => True) fun _ _ _ => trivial) ((Sl.of_row (row_kp HR5.out.1 k6)).mono (Q := fun _ => True) fun _ _ _ => trivial)
              clear HLi r6 k6 HR5 HA5
              refine ⟨_, rfl, HA6.out, fun hHeld => ?_⟩
              try simp only [Act.put, List.setIfInBounds_toArray, List.set_cons_zero, List.set_cons_succ]
              refine callAtG 19 160 13 (vals := #[.slice (some ⟨gb, 0, none⟩) ln ln, .slice xa ln xc]) (by kernel_rfl) rfl rfl rfl (by rfl) (by simp [Act.eval]) Tryz.func13 (by kernel_rfl) (by kernel_rfl) ?_
              refine Calls.mono (HSm.out) ?_
              rintro e w7 ⟨rfl, q7, rfl⟩
              have HA7 : Hid ((w6.drewN q7).cell? ⟨sg, j * 2, none⟩ = some (.int .i64 (sq : Int)) ∧ (w6.drewN q7).cell? ⟨tg, sq, none⟩ = some (.slice xa ln xc)) := ⟨kp_cell (kp_drewN _ _) HA6.out.1, kp_cell (kp_drewN _ _) HA6.out.2⟩
              have HN : Hid (LpG W.heap.size b i (j + 1) o5 a5 s5 L0 (.slice (some ⟨sg, 0, none⟩) K sc) tl (.slice (some ⟨tg, 0, none⟩) tn tc) W (w6.drewN q7)) := HG5.out.1.kpw (kp_trans HK6.out (kp_drewN _ _))
              clear HSm HA6 HK6 HG5
              refine ⟨_, rfl, HA7.out, fun hHeld => ?_⟩
              try simp only [Act.put, List.setIfInBounds_toArray, List.set_cons_zero, List.set_cons_succ]
              refine takeAt 20 (some 161) ?_ rfl rfl (by kernel_rfl) (by kernel_rfl) (by kernel_rfl) (fun _ _ _ h => h) (Or.inl ⟨by rfl, ?_⟩) hHeld ?_
              rotate_left
              · intro w hSw
                go_simp <;> with_reducible rfl
              try simp only [Act.put, List.setIfInBounds_toArray, List.set_cons_zero, List.set_cons_succ]
              refine takeAt 21 (some 162) ?_ rfl rfl (by kernel_rfl) (by kernel_rfl) (by kernel_rfl) (fun _ _ _ h => h) (Or.inl ⟨by rfl, ?_⟩) hHeld ?_
              rotate_left
              · intro w hSw
                go_simp <;> with_reducible rfl
              try simp only [Act.put, List.setIfInBounds_toArray, List.set_cons_zero, List.set_cons_succ]
              refine wpAnyH_done (by kernel_rfl) ?_ _
              refine NoPanic.normal ?_
              go_wp2_with fail
              go_roundw
              case rel => exact ⟨j + 1, o5, a5, s5, by omega, by go_num, HN⟩
              case measure => simp only [intOf]; omega
            · obtain rfl : j = K := by omega
              have g1 : decide ((j : Int) < (j : Int)) = false := by simp
              have HX : Hid (Below W.heap.size W wr) := HG.out.kp
              clear HG
              go_wp2_with fail
              go_ret
              exact ⟨rfl, HX.out⟩
    · as_aux_lemma =>
      obtain ⟨Er, hEq, hE0, hE12⟩ : ∃ E, beyondE (ls.length : Int) ls = E ∧ E ≠ 0 ∧ (E = 3 ∨ E = 90) := ⟨_, rfl, hE, by
        unfold beyondE at hE ⊢
        split
        · exact .inl rfl
        · split
          · exact .inr rfl
          · rename_i q1 q2; rw [if_neg q1, if_neg q2] at hE; exact absurd rfl hE⟩
      have HN : Hid _ := bnew_no hsl2 (n := 30) (by decide) hEq hE0 (by omega)
      clear hE hsl2 hEq hE0
      go_wp2_with fail
      refine Calls.mono HN.out ?_
      rintro e w3 ⟨rfl, k3⟩
      have HX : Hid (Below W.heap.size W w3) := kp_trans H2.out k3
      clear HN k3 H2
      rcases hE12 with rfl | rfl
      · go_wp2_with fail
        go_ret
        exact ⟨rfl, HX.out⟩
      · go_wp2_with fail
        go_ret
        exact ⟨rfl, HX.out⟩
end Go.Proofs.YtaefeakmlgjonaaGreat
