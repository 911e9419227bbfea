/- Texts that the proof of the law stands on: Hn17, Hn18, Hs1, Hk0, Hk1, Hk2, Hl0, Hb1, He0, Hw0, Hw1, Hw2. -/
import Derived.Test.YtalmajiflmejcaaGreatPartL
import Derived.Test.YtalmajiflmejcaaGreatPartI
import Derived.DeepKeys
/- The matcher: first. -/
namespace Go.Proofs.YtalmajiflmejcaaGreat
open Go.ChangeShapes Go.WideShapes Go.ChangeAt Go.RowKit
set_option linter.unusedVariables false
set_option linter.unusedSimpArgs false
theorem sndF_fit {C : List Ins} {r : Int} (h : sndF C r = true) : 0 < C.length ∧ C.length ≤ 2000 ∧ 0 ≤ r ∧ r ≤ 2000 ∧ Fit C r.toNat := by
  unfold sndF sizeB at h
  simp only [Bool.and_eq_true, decide_eq_true_eq] at h
  obtain ⟨⟨⟨⟨⟨h1, h2⟩, h3⟩, h4⟩, h5⟩, h6⟩ := h
  refine ⟨h1, h2, h3, h4, fun d hd => ?_⟩
  have := List.all_eq_true.1 h5 d hd
  rw [Int.toNat_of_nonneg h3]
  exact this
theorem at_cases {C : List Ins} {s : ByteArray} {fo : Bool} (k : Nat) (m : Mc) : (atE C s fo k m).1 ≤ 2 := by
  have : ∀ (f : Nat) (m : Mc), (tryE C s fo f m).1 ≤ 2 := by
    intro f
    induction f with
    | zero => intro m; exact Nat.zero_le _
    | succ f ih =>
      intro m
      rw [tryE]
      split
      · exact Nat.zero_le _
      · split
        · exact ih _
        · exact go_cases _ _
  exact this _ _
theorem mc_tryAt {t : Ty} {s : ByteArray} {fo : Bool} {bv wv cv av : Value} {st j : Nat} {v : Value} (hj : (tcells t)[j]? = some v) : (mcells s fo bv wv t cv av st)[4 + j]? = some v := by
  unfold mcells
  rw [show 4 + j = j + 1 + 1 + 1 + 1 by omega]
  simp only [List.getElem?_cons_succ]
  rw [List.getElem?_append_left (List.getElem?_eq_some_iff.1 hj).1]
  exact hj
theorem yields_built {ops : Array Oper} {S : World → Prop} {op : Oper} {a : Act} {t : TypeId} {cells : Array Value} (hw : Region.wanted op (yielded ops a.tmps) = true) (hb : Tryz.prog.built t [] = some cells) (ho : op.op = .build t #[]) : YieldsIf Tryz.prog ops S op (.agg cells) a :=
  .inl ⟨hw, fun w _ => by
    unfold execOp
    simp only [ho, Sem.run_bind]
    rw [run_build w t _ cells (by simpa using hb)]
    rfl⟩
/-- The machine while one place after another is tried. -/
def Fi (w0 : World) (mb : Nat) (s : ByteArray) (fo : Bool) (cv : Value) (C : List Ins) (N R M : Nat) (tp k : Nat) (G : Nat × Nat × Mc) (w : World) : Prop :=
  ∃ m bv wv av, Mw w0 mb s fo cv m bv wv av w ∧ Okm N s.size R M m ∧ m.sd = [] ∧ frmE C s fo (tp + 1 - k) k m = G
section
variable {w : World} {ca : Option Addr} {N cc : Nat} {C : List Ins}
set_option maxHeartbeats 8000000 in
set_option maxRecDepth 100000 in
theorem first_ok (hC : Cd w (.slice ca N cc) C) (hok : ∀ d ∈ C, d.set.ok) (fo : Bool) {R : Nat} (hS : sndF C R = true) (s : ByteArray) (hz : s.size ≤ 1000000) {a b st : Nat} (ha : a ≤ s.size) (hb : b ≤ s.size) (hst : st ≤ 5000) :
    Calls Tryz.prog 49 #[.agg #[.slice ca N cc, .int .i64 R, .bool fo], .string s, .int .i64 a, .int .i64 b, .int .i64 st] w fun e w' => e = .returned (ansV (ansE C R s fo (b + 1 - a) a st)) ∧ Kp w w' := by
  obtain ⟨dM, hM1, hM2⟩ := rowMatch
  obtain ⟨dT, hT1, hT2⟩ := rowTry
  have HT : Hid (Tryz.prog.underlying 25 = some dM ∧ dM.isRow = true ∧ Tryz.prog.underlying 160 = some dT ∧ dT.isRow = true) := ⟨hM1, hM2, hT1, hT2⟩
  clear hM1 hM2 hT1 hT2
  obtain ⟨ZL, hZL⟩ : ∃ L, z22 = L := ⟨_, rfl⟩
  have HZ : Hid (Tryz.prog.built 25 [] = some ZL.toArray ∧ ZL.length = 22 ∧ (∀ v ∈ ZL, v.oneCell' = true) ∧ ZL = slv (List.replicate 22 0)) := by rw [← hZL]; exact ⟨built_z, z22_len, z22_one, z22_eq⟩
  obtain ⟨p, hp⟩ : ∃ b, w.heap.size = b := ⟨_, rfl⟩
  have HP : Hid (w.heap.size = p) := hp
  obtain ⟨W1, hW1⟩ : ∃ W, (w.alloc (.cells #[.slice ca N cc, .int .i64 R, .bool fo] 32)).alloc (.cells #[.int .i64 0, .int .i64 0, .int .i64 0, .int .i64 0, .int .i64 0, .int .i64 0, .int .i64 0, .int .i64 0, .int .i64 0, .int .i64 0, .int .i64 0, .int .i64 0, .int .i64 0, .int .i64 0, .int .i64 0, .int .i64 0, .int .i64 0, .int .i64 0, .int .i64 0, .int .i64 0, .int .i64 0, .int .i64 0] 25) = W := ⟨_, rfl⟩
  have H1 : Hid (Kp w W1 ∧ Lc 32 p [.slice ca N cc, .int .i64 R, .bool fo] W1 ∧ Lc 25 (p + 1) ZL W1) := by
    rw [← hW1, ← hp, ← hZL]
    have e2 := Lc.new (w.alloc (.cells #[.slice ca N cc, .int .i64 R, .bool fo] 32)) z22 25
    rw [alloc_size] at e2
    exact ⟨kp_trans (kp_alloc _ _) (kp_alloc _ _), (Lc.new w [.slice ca N cc, .int .i64 R, .bool fo] 32).kp (kp_alloc _ _), e2⟩
  have HA : Hid (decide (0 ≤ (st : Int) ∧ (st : Int) ≤ 5000) = true) := decide_eq_true (by omega)
  have HB : Hid (decide (0 ≤ (a : Int) ∧ (a : Int) ≤ (s.size : Int)) = true) := decide_eq_true (by omega)
  have HSD : Hid (Calls Tryz.prog 74 #[.agg #[.slice ca N cc, .int .i64 R, .bool fo]] W1 fun e w' => e = .returned (.bool true) ∧ Kp W1 w') := by have := gsound_any fo R (hC.kp H1.out.1); rw [hS] at this; exact this
  obtain ⟨G, hG⟩ : ∃ G, frmE C s fo (b + 1 - a) a (newE R st) = G := ⟨_, rfl⟩
  obtain ⟨X, hX⟩ : ∃ X, ansE C R s fo (b + 1 - a) a st = X := ⟨_, rfl⟩
  rw [hX]
  have HX : Hid (X = if G.1 = 1 then (mtE G.2.2.t G.2.1, G.2.2.st, true, 0) else if G.1 = 2 then (List.replicate 22 0, 0, false, 50) else (List.replicate 22 0, G.2.2.st, false, 0)) := by show _ = _; rw [← hX]; unfold ansE; rw [hG]
  obtain ⟨f1, f2, f3, f4, f5⟩ := sndF_fit hS
  rw [Int.toNat_natCast] at f5
  have hlen : C.length = N := hC.len.1.symm
  have HK : Hid (∀ z, Kp w z → Kn z ca N cc C s R 5000) := fun z hz' => ⟨hC.kp hz', hlen, f5, hok, by omega, by omega, hz, by omega, by omega⟩
  have HNP : Hid (0 < N ∧ C.length = N ∧ b ≤ s.size ∧ a ≤ s.size ∧ st ≤ 5000 ∧ R ≤ 2000 ∧ Fit C R) := ⟨by omega, hlen, hb, ha, hst, by omega, f5⟩
  have HG : Hid (frmE C s fo (b + 1 - a) a (newE R st) = G) := hG
  have hR2 : R ≤ 2000 := by omega
  have ha6 : a ≤ 1000000 := by omega
  have hb6 : b ≤ 1000000 := by omega
  clear hX hG hC hok hS hZL f1 f2 f3 f4 f5 hlen hz ha hb
  go_enter Tryz.func49, Tryz.ntmps49
  go_upto_region 1 with fail
  try rw [hW1]
  try rw [hp]
  clear hW1 hp
  have c0 : W1.cell? ⟨p, 0, none⟩ = some (.slice ca N cc) := H1.out.2.1.at rfl
  have c1 : W1.cell? ⟨p, 1, none⟩ = some (.int .i64 R) := H1.out.2.1.at rfl
  have c2 : W1.cell? ⟨p, 2, none⟩ = some (.bool fo) := H1.out.2.1.at rfl
  go_upto_region 3 with (first | (go_at_call 73; refine Calls.mono (within_any _ _ _) ?_; rintro e x1 ⟨rfl, q⟩; rw [q]; clear q; first | rw [HA.out] | rw [HB.out]) | (go_at_call 74; refine Calls.mono HSD.out ?_; rintro e W2 ⟨rfl, q⟩; have H2 : Hid (Kp w W2 ∧ Lc 32 p [.slice ca N cc, .int .i64 R, .bool fo] W2 ∧ Lc 25 (p + 1) ZL W2) := ⟨kp_trans H1.out.1 q, H1.out.2.1.kp q, H1.out.2.2.kp q⟩; clear q))
  clear c0 c1 c2
  have c0 : W2.cell? ⟨p, 0, none⟩ = some (.slice ca N cc) := H2.out.2.1.at rfl
  have c1 : W2.cell? ⟨p, 1, none⟩ = some (.int .i64 R) := H2.out.2.1.at rfl
  have c2 : W2.cell? ⟨p, 2, none⟩ = some (.bool fo) := H2.out.2.1.at rfl
  have HNM : Hid (Calls Tryz.prog 75 #[.agg #[.slice ca N cc, .int .i64 R, .bool fo], .string s, .int .i64 st] W2 fun e w' => ∃ mb, e = .returned (.pointer (some ⟨mb, 0, none⟩)) ∧ Mx W2 mb s fo (.slice ca N cc) (newE R st) w') := newMachine_m (by omega) fo s st W2
  go_upto_region 4 with (go_at_call 75; refine Calls.mono HNM.out ?_; rintro e W3 ⟨mb, rfl, ⟨bv3, wv3, av3, q⟩⟩; have H3 : Hid (Mw W2 mb s fo (.slice ca N cc) (newE R st) bv3 wv3 av3 W3) := q; clear q)
  clear c0 c1 c2
  have H0 : Hid (Fi W2 mb s fo (.slice ca N cc) C N R 5000 b a G W3) := ⟨_, _, _, _, H3.out, new_ok HNP.out.2.2.2.2.1, rfl, HG.out⟩
  go_wp2_with fail
  go_loopw [15] (fun v15 wr => ∃ k : Nat, a ≤ k ∧ k ≤ 1000001 ∧ v15 = .int .i64 k ∧ Hid (Fi W2 mb s fo (.slice ca N cc) C N R 5000 b k G wr)) (fun v15 _ => b + 1 - (intOf v15).toNat)
  case atStart => exact ⟨a, Nat.le_refl _, by omega, rfl, H0.out⟩
  case round =>
    obtain ⟨k, hka, hk6, rfl, hq⟩ := hrel
    obtain ⟨m, bv, wv, av, h, ho, hsd, hG⟩ := hq.out
    have HS : Hid (m.t.ss.length = 22) := ho.t.len
    clear hq
    by_cases hkb : k ≤ b
    · have dl : decide ((k : Int) ≤ (b : Int)) = true := decide_eq_true (by omega)
      obtain ⟨Q, hQ⟩ : ∃ Q, atE C s fo k m = Q := ⟨_, rfl⟩
      have HTR : Hid (Calls Tryz.prog 76 #[.pointer (some ⟨mb, 0, none⟩), .int .i64 k] wr fun e w' => e = .returned (.int .u8 Q.1) ∧ Mx W2 mb s fo (.slice ca N cc) Q.2 w') := by
        have := tryAt_m (HK.out W2 H2.out.1) h ho hsd (k := k) (by have := HNP.out; omega)
        rw [hQ] at this
        exact this
      have HQO : Hid (Okm N s.size R 5000 Q.2 ∧ (Q.1 = 0 → Q.2.sd = [])) := by
        have := at_ok (fo := fo) (s := s) (M := 5000) (k := k) HNP.out.2.2.2.2.2.2 (by rw [HNP.out.2.1]; exact ho) (by rw [HNP.out.2.1]; exact HNP.out.1) (by have := HNP.out; omega) hsd
        rw [hQ, HNP.out.2.1] at this
        exact ⟨this.1, this.2.2⟩
      have HGQ : Hid (G = if Q.1 = 0 then frmE C s fo (b - k) (k + 1) Q.2 else (Q.1, k, Q.2)) := by
        show _ = _
        rw [← hG, show b + 1 - k = (b - k) + 1 by omega, frmE, hQ]
      have HQ2 : Hid (Q.1 ≤ 2) := by show _ ≤ _; rw [← hQ]; exact at_cases k m
      clear h ho hsd hG hQ HS
      obtain ⟨qn, qm⟩ := Q
      go_upto_region 8 with (go_at_call 76; refine Calls.mono HTR.out ?_; rintro e w4 ⟨rfl, ⟨bv4, wv4, av4, q⟩⟩; have H4 : Hid (Mw W2 mb s fo (.slice ca N cc) qm bv4 wv4 av4 w4) := q; clear q)
      clear dl
      have hqn : qn = 0 ∨ qn = 1 ∨ qn = 2 := by have := HQ2.out; (try simp only at this); omega
      have H4B : Hid (Lc 25 (p + 1) ZL w4 ∧ Kp w w4) := ⟨H2.out.2.2.kp H4.out.kp, kp_trans H2.out.1 H4.out.kp⟩
      have HS4 : Hid (qm.t.ss.length = 22) := HQO.out.1.t.len
      rcases hqn with rfl | rfl | rfl
      · go_wp2_with fail
        go_roundw
        case rel => exact ⟨k + 1, by omega, by omega, by go_num, ⟨qm, bv4, wv4, av4, H4.out, HQO.out.1, HQO.out.2 (by trivial), by rw [show b + 1 - (k + 1) = b - k by omega]; exact HGQ.out.symm⟩⟩
        case measure => simp only [intOf]; omega
      · have HRX : Hid (X = (mtE qm.t k, qm.st, true, 0)) := by show _ = _; rw [HX.out, HGQ.out]; rfl
        obtain ⟨LE, hLE⟩ : ∃ L, slv (mtE qm.t k) = L := ⟨_, rfl⟩
        have HLE : Hid (LE.length = 22 ∧ (∀ v ∈ LE, v.oneCell' = true) ∧ slv (mtE qm.t k) = LE) := by rw [← hLE]; exact ⟨by rw [slv_len, mt_len], slv_one _, rfl⟩
        have HMM : Hid (∀ z, Calls Tryz.prog 77 #[.agg (tcells qm.t).toArray, .int .i64 k] z fun e w' => e = .returned (.agg LE.toArray) ∧ Kp z w') := by intro z; have := match_m qm.t HS4.out k z; rw [hLE] at this; exact this
        have HSZ : Hid ((Tryz.prog.info? 160).map (·.size) = some (tcells qm.t).length) := by show _ = _; rw [tc_len HS4.out]; exact sizeTry
        clear hLE
        go_upto_region 9 with fail
        refine wp_region_noPanic ?_
        refine wp_region_held_drew (S := fun z => Lc 163 mb (mcells s fo bv4 wv4 qm.t (.slice ca N cc) av4 qm.st) z) (by kernel_rfl) (H4.out.st.kp (kp_drew _)) (fun hHeld => ?_)
        refine takeAt 0 (some 47) ?_ rfl rfl (by kernel_rfl) (by kernel_rfl) (by kernel_rfl) (fun _ _ _ h => h) (Or.inl ⟨by rfl, ?_⟩) hHeld ?_
        rotate_left
        · intro w hSw
          go_simp <;> with_reducible rfl
        try simp only [Act.put, List.setIfInBounds_toArray, List.set_cons_zero, List.set_cons_succ]
        refine takeAt 1 (some 48) ?_ rfl rfl (by kernel_rfl) (by kernel_rfl) (by kernel_rfl) (fun _ _ _ h => h) (Or.inl ⟨by rfl, ?_⟩) hHeld ?_
        rotate_left
        · intro w hSw
          go_simp <;> with_reducible rfl
        try simp only [Act.put, List.setIfInBounds_toArray, List.set_cons_zero, List.set_cons_succ]
        refine takeAt 2 (some 49) ?_ rfl rfl (by kernel_rfl) (by kernel_rfl) (by kernel_rfl) (fun _ _ _ h => h) (Or.inl ⟨by rfl, ?_⟩) hHeld ?_
        rotate_left
        · intro w hSw
          go_simp <;> with_reducible rfl
        try simp only [Act.put, List.setIfInBounds_toArray, List.set_cons_zero, List.set_cons_succ]
        refine takeAt 3 (some 50) (.agg (tcells qm.t).toArray) rfl rfl (by kernel_rfl) (by kernel_rfl) (by kernel_rfl) (fun _ _ _ h => h) (yieldsIf_load_mid (by rfl) 160 (.tmp 49) rfl mb 4 rfl (tcells qm.t) dT (fun z hz => hz.range 4 fun j v hj => mc_tryAt hj) HT.out.2.2.1 HT.out.2.2.2 HSZ.out) hHeld ?_
        try simp only [Act.put, List.setIfInBounds_toArray, List.set_cons_zero, List.set_cons_succ]
        refine takeAt 4 (some 51) ?_ rfl rfl (by kernel_rfl) (by kernel_rfl) (by kernel_rfl) (fun _ _ _ h => h) (Or.inl ⟨by rfl, ?_⟩) hHeld ?_
        rotate_left
        · intro w hSw
          go_simp <;> with_reducible rfl
        try simp only [Act.put, List.setIfInBounds_toArray, List.set_cons_zero, List.set_cons_succ]
        refine takeAt 6 (some 53) ?_ rfl rfl (by kernel_rfl) (by kernel_rfl) (by kernel_rfl) (fun _ _ _ h => h) (Or.inl ⟨by rfl, ?_⟩) hHeld ?_
        rotate_left
        · intro w hSw
          go_simp <;> with_reducible rfl
        try simp only [Act.put, List.setIfInBounds_toArray, List.set_cons_zero, List.set_cons_succ]
        refine takeAt 7 (some 54) ?_ rfl rfl (by kernel_rfl) (by kernel_rfl) (by kernel_rfl) (fun _ _ _ h => h) (Or.inl ⟨by rfl, ?_⟩) hHeld ?_
        rotate_left
        · intro w hSw
          go_simp <;> with_reducible rfl
        try simp only [Act.put, List.setIfInBounds_toArray, List.set_cons_zero, List.set_cons_succ]
        refine takeAt 8 (some 55) ?_ rfl rfl (by kernel_rfl) (by kernel_rfl) (by kernel_rfl) (fun _ _ _ h => h) (Or.inl ⟨by rfl, ?_⟩) hHeld ?_
        rotate_left
        · intro w hSw
          go_simp <;> with_reducible rfl
        try simp only [Act.put, List.setIfInBounds_toArray, List.set_cons_zero, List.set_cons_succ]
        refine takeAt 9 (some 56) (.int .i64 qm.st) rfl rfl (by kernel_rfl) (by kernel_rfl) (by kernel_rfl) (fun _ _ _ h => h) (Or.inl ⟨by rfl, ?_⟩) hHeld ?_
        · intro w hSw
          have y0 : w.cell? ⟨mb, 31, none⟩ = some (.int .i64 qm.st) := hSw.at (mc_tail HS4.out 5)
          go_simp <;> with_reducible rfl
        try simp only [Act.put, List.setIfInBounds_toArray, List.set_cons_zero, List.set_cons_succ]
        refine callAt 5 52 77 (vals := #[.agg (tcells qm.t).toArray, .int .i64 k]) (by kernel_rfl) rfl rfl rfl rfl (by simp [Act.eval]) Tryz.func77 (by kernel_rfl) (by kernel_rfl) ?_
        refine Calls.mono (HMM.out _) ?_
        rintro e w5 ⟨rfl, q⟩
        have H5 : Hid (Kp w w5 ∧ Lc 25 (p + 1) ZL w5 ∧ Lc 163 mb (mcells s fo bv4 wv4 qm.t (.slice ca N cc) av4 qm.st) w5) := ⟨kp_trans (kp_trans H4B.out.2 (kp_drew _)) q, H4B.out.1.kp (kp_trans (kp_drew _) q), H4.out.st.kp (kp_trans (kp_drew _) q)⟩
        clear q
        refine ⟨_, rfl, H5.out.2.2, fun hHeld => ?_⟩
        try simp only [Act.put, List.setIfInBounds_toArray, List.set_cons_zero, List.set_cons_succ]
        refine wpAnyH_ready (rs := [10]) (by kernel_rfl) (by simp) ?_
        refine AllReadyH.cons rfl (fun K hK => ?_) AllReadyH.nil
        rw [if_pos (by rfl)]
        refine wp_store_box H5.out.2.1 0 LE 25 (.tmp 10) (.tmp 52) rfl rfl rfl (by rw [Nat.zero_add, HLE.out.1, HZ.out.2.1]; exact Nat.le_refl _) (by rw [HLE.out.1]; exact sizeMatch) HLE.out.2.1 (sets_full _ _ (by rw [HLE.out.1, HZ.out.2.1])) ?_
        intro W7 q1 q2 q3
        have H7 : Hid (Lc 25 (p + 1) LE W7 ∧ Kp w W7 ∧ Lc 163 mb (mcells s fo bv4 wv4 qm.t (.slice ca N cc) av4 qm.st) W7) := ⟨q1, H5.out.1.trans (q2.below H5.out.1.size fun j hj q => by unfold On at q; have := HP.out; omega), H5.out.2.2.fr q2 (fun q => lc_ne H5.out.2.2 H5.out.2.1 (by decide) q)⟩
        clear q1 q2 q3
        refine hK.out _ _ H7.out.2.2 (fun hHeld => ?_)
        clear hK K
        try simp only [Act.put, List.setIfInBounds_toArray, List.set_cons_zero, List.set_cons_succ]
        refine takeAt 11 (some 11) ?_ rfl rfl (by kernel_rfl) (by kernel_rfl) (by kernel_rfl) (fun _ _ _ h => h) (Or.inl ⟨by rfl, ?_⟩) hHeld ?_
        rotate_left
        · intro w hSw
          go_simp <;> with_reducible rfl
        try simp only [Act.put, List.setIfInBounds_toArray, List.set_cons_zero, List.set_cons_succ]
        refine takeAt 12 (some 12) ?_ rfl rfl (by kernel_rfl) (by kernel_rfl) (by kernel_rfl) (fun _ _ _ h => h) (Or.inl ⟨by rfl, ?_⟩) hHeld ?_
        rotate_left
        · intro w hSw
          go_simp <;> with_reducible rfl
        try simp only [Act.put, List.setIfInBounds_toArray, List.set_cons_zero, List.set_cons_succ]
        refine takeAt 13 (some 13) ?_ rfl rfl (by kernel_rfl) (by kernel_rfl) (by kernel_rfl) (fun _ _ _ h => h) (Or.inl ⟨by rfl, ?_⟩) hHeld ?_
        rotate_left
        · intro w hSw
          go_simp <;> with_reducible rfl
        try simp only [Act.put, List.setIfInBounds_toArray, List.set_cons_zero, List.set_cons_succ]
        refine wpAnyH_done (by kernel_rfl) ?_ _
        refine NoPanic.normal ?_
        go_wp2_with fail
        (try simp only [Exit.inBlock, Exit.then])
        refine bodyPost_ret (results_box4 rfl rfl H7.out.1 HT.out.1 HT.out.2.1 (by rw [HLE.out.1]; exact sizeMatch)) rfl ?_
        refine ⟨?_, H7.out.2.1⟩
        rw [HRX.out]
        unfold ansV
        simp only
        rw [HLE.out.2.2]
        rfl
      · have HRX : Hid (X = (List.replicate 22 0, 0, false, 50)) := by show _ = _; rw [HX.out, HGQ.out]; rfl
        go_wp2_with (first | (refine wpList_buildTo rfl 25 _ rfl [] (by simp) ZL.toArray HZ.out.1 ?_) | (refine wpList_store_box H4B.out.1 0 ZL rfl 25 (.tmp 10) (.tmp 59) rfl rfl rfl (by rw [Nat.zero_add]; exact Nat.le_refl _) (by rw [HZ.out.2.1]; exact sizeMatch) HZ.out.2.2.1 (sets_full _ _ rfl) ?_; intro W7 q1 q2 q3; have H7 : Hid (Lc 25 (p + 1) ZL W7 ∧ Kp w W7) := ⟨q1, H4B.out.2.trans (q2.below H4B.out.2.size fun j hj q => by unfold On at q; have := HP.out; omega)⟩; clear q1 q2 q3))
        (try simp only [Exit.inBlock, Exit.then])
        refine bodyPost_ret (results_box4 rfl rfl H7.out.1 HT.out.1 HT.out.2.1 (by rw [HZ.out.2.1]; exact sizeMatch)) rfl ?_
        refine ⟨?_, H7.out.2⟩
        rw [HRX.out]
        unfold ansV
        rw [← HZ.out.2.2.2]
        rfl
    · have dl : decide ((k : Int) ≤ (b : Int)) = false := decide_eq_false (by omega)
      have HGX : Hid (G = (0, k, m)) := by show _ = _; rw [← hG, show b + 1 - k = 0 by omega]; rfl
      have HRX : Hid (X = (List.replicate 22 0, m.st, false, 0)) := by show _ = _; rw [HX.out, HGX.out]; rfl
      have H4 : Hid (Mw W2 mb s fo (.slice ca N cc) m bv wv av wr) := h
      have H4B : Hid (Lc 25 (p + 1) ZL wr ∧ Kp w wr) := ⟨H2.out.2.2.kp h.kp, kp_trans H2.out.1 h.kp⟩
      clear h ho hsd hG
      go_upto_region 12 with fail
      refine wp_region_noPanic ?_
      refine wp_region_held_drew (S := fun z => Lc 163 mb (mcells s fo bv wv m.t (.slice ca N cc) av m.st) z) (by kernel_rfl) (H4.out.st.kp (kp_drew _)) (fun hHeld => ?_)
      refine takeAt 0 (some 60) (.agg ZL.toArray) rfl rfl (by kernel_rfl) (by kernel_rfl) (by kernel_rfl) (fun _ _ _ h => h) (yields_built (by rfl) HZ.out.1 rfl) hHeld ?_
      try simp only [Act.put, List.setIfInBounds_toArray, List.set_cons_zero, List.set_cons_succ]
      refine takeAt 1 (some 61) ?_ rfl rfl (by kernel_rfl) (by kernel_rfl) (by kernel_rfl) (fun _ _ _ h => h) (Or.inl ⟨by rfl, ?_⟩) hHeld ?_
      rotate_left
      · intro w hSw
        go_simp <;> with_reducible rfl
      try simp only [Act.put, List.setIfInBounds_toArray, List.set_cons_zero, List.set_cons_succ]
      refine takeAt 2 (some 62) ?_ rfl rfl (by kernel_rfl) (by kernel_rfl) (by kernel_rfl) (fun _ _ _ h => h) (Or.inl ⟨by rfl, ?_⟩) hHeld ?_
      rotate_left
      · intro w hSw
        go_simp <;> with_reducible rfl
      try simp only [Act.put, List.setIfInBounds_toArray, List.set_cons_zero, List.set_cons_succ]
      refine takeAt 3 (some 63) ?_ rfl rfl (by kernel_rfl) (by kernel_rfl) (by kernel_rfl) (fun _ _ _ h => h) (Or.inl ⟨by rfl, ?_⟩) hHeld ?_
      rotate_left
      · intro w hSw
        go_simp <;> with_reducible rfl
      try simp only [Act.put, List.setIfInBounds_toArray, List.set_cons_zero, List.set_cons_succ]
      refine takeAt 4 (some 64) (.int .i64 m.st) rfl rfl (by kernel_rfl) (by kernel_rfl) (by kernel_rfl) (fun _ _ _ h => h) (Or.inl ⟨by rfl, ?_⟩) hHeld ?_
      · intro w hSw
        have y0 : w.cell? ⟨mb, 31, none⟩ = some (.int .i64 m.st) := hSw.at (mc_tail HS.out 5)
        go_simp <;> with_reducible rfl
      try simp only [Act.put, List.setIfInBounds_toArray, List.set_cons_zero, List.set_cons_succ]
      refine wpAnyH_ready (rs := [5]) (by kernel_rfl) (by simp) ?_
      refine AllReadyH.cons rfl (fun K hK => ?_) AllReadyH.nil
      rw [if_pos (by rfl)]
      refine wp_store_box (H4B.out.1.kp (kp_drew _)) 0 ZL 25 (.tmp 10) (.tmp 60) rfl rfl rfl (by rw [Nat.zero_add]; exact Nat.le_refl _) (by rw [HZ.out.2.1]; exact sizeMatch) HZ.out.2.2.1 (sets_full _ _ rfl) ?_
      intro W7 q1 q2 q3
      have H7 : Hid (Lc 25 (p + 1) ZL W7 ∧ Kp w W7 ∧ Lc 163 mb (mcells s fo bv wv m.t (.slice ca N cc) av m.st) W7) := ⟨q1, (kp_trans H4B.out.2 (kp_drew _)).trans (q2.below (kp_trans H4B.out.2 (kp_drew _)).size fun j hj q => by unfold On at q; have := HP.out; omega), (H4.out.st.kp (kp_drew _)).fr q2 (fun q => lc_ne H4.out.st H4B.out.1 (by decide) q)⟩
      clear q1 q2 q3
      refine hK.out _ _ H7.out.2.2 (fun hHeld => ?_)
      clear hK K
      try simp only [Act.put, List.setIfInBounds_toArray, List.set_cons_zero, List.set_cons_succ]
      refine takeAt 6 (some 11) ?_ rfl rfl (by kernel_rfl) (by kernel_rfl) (by kernel_rfl) (fun _ _ _ h => h) (Or.inl ⟨by rfl, ?_⟩) hHeld ?_
      rotate_left
      · intro w hSw
        go_simp <;> with_reducible rfl
      try simp only [Act.put, List.setIfInBounds_toArray, List.set_cons_zero, List.set_cons_succ]
      refine takeAt 7 (some 12) ?_ rfl rfl (by kernel_rfl) (by kernel_rfl) (by kernel_rfl) (fun _ _ _ h => h) (Or.inl ⟨by rfl, ?_⟩) hHeld ?_
      rotate_left
      · intro w hSw
        go_simp <;> with_reducible rfl
      try simp only [Act.put, List.setIfInBounds_toArray, List.set_cons_zero, List.set_cons_succ]
      refine takeAt 8 (some 13) ?_ rfl rfl (by kernel_rfl) (by kernel_rfl) (by kernel_rfl) (fun _ _ _ h => h) (Or.inl ⟨by rfl, ?_⟩) hHeld ?_
      rotate_left
      · intro w hSw
        go_simp <;> with_reducible rfl
      try simp only [Act.put, List.setIfInBounds_toArray, List.set_cons_zero, List.set_cons_succ]
      refine wpAnyH_done (by kernel_rfl) ?_ _
      refine NoPanic.normal ?_
      go_wp2_with fail
      (try simp only [Exit.inBlock, Exit.then])
      refine bodyPost_ret (results_box4 rfl rfl H7.out.1 HT.out.1 HT.out.2.1 (by rw [HZ.out.2.1]; exact sizeMatch)) rfl ?_
      refine ⟨?_, H7.out.2.1⟩
      rw [HRX.out]
      unfold ansV
      rw [← HZ.out.2.2.2]
      rfl
end
end Go.Proofs.YtalmajiflmejcaaGreat
/- The matcher: At, From. -/
namespace Go.Proofs.YtalmajiflmejcaaGreat
open Go.ChangeShapes Go.WideShapes Go.ChangeAt Go.RowKit
set_option linter.unusedVariables false
set_option linter.unusedSimpArgs false
theorem ansE_len (C : List Ins) (R : Nat) (s : ByteArray) (fo : Bool) (f k st : Nat) : (ansE C R s fo f k st).1.length = 22 := by
  unfold ansE
  split
  · exact mt_len _ _
  split
  · rfl
  · rfl
theorem firE_len (C : List Ins) (r : Int) (s : ByteArray) (fo : Bool) (a b st : Int) : (firE C r s fo a b st).1.length = 22 := by
  unfold firE
  split
  · exact ansE_len _ _ _ _ _ _ _
  · rfl
section
variable {w : World} {ca : Option Addr} {N cc : Nat} {C : List Ins}
theorem first_any (hC : Cd w (.slice ca N cc) C) (hok : ∀ d ∈ C, d.set.ok) (fo : Bool) (r : Int) (s : ByteArray) (hz : s.size ≤ 1000000) (a b st : Int) (hb : a = b ∨ b = (s.size : Int)) :
    Calls Tryz.prog 49 #[.agg #[.slice ca N cc, .int .i64 r, .bool fo], .string s, .int .i64 a, .int .i64 b, .int .i64 st] w fun e w' => e = .returned (ansV (firE C r s fo a b st)) ∧ Kp w w' := by
  by_cases h : 0 ≤ st ∧ st ≤ 5000 ∧ 0 ≤ a ∧ a ≤ (s.size : Int) ∧ sndF C r = true
  · obtain ⟨h1, h2, h3, h4, h5⟩ := h
    obtain ⟨_, _, h6, _, _⟩ := sndF_fit h5
    have e : firE C r s fo a b st = ansE C r.toNat s fo (b + 1 - a).toNat a.toNat st.toNat := by unfold firE; rw [if_pos ⟨h1, h2, h3, h4, h5⟩]
    rw [e]
    obtain ⟨st, rfl⟩ : ∃ n : Nat, st = (n : Int) := ⟨st.toNat, by omega⟩
    obtain ⟨a, rfl⟩ : ∃ n : Nat, a = (n : Int) := ⟨a.toNat, by omega⟩
    obtain ⟨b, rfl⟩ : ∃ n : Nat, b = (n : Int) := ⟨b.toNat, by omega⟩
    obtain ⟨r, rfl⟩ : ∃ n : Nat, r = (n : Int) := ⟨r.toNat, by omega⟩
    have := first_ok hC hok fo h5 s hz (a := a) (b := b) (st := st) (by omega) (by omega) (by omega)
    rw [show ((b : Int) + 1 - (a : Int)).toNat = b + 1 - a by omega]
    simp only [Int.toNat_natCast]
    exact this
  · have e : firE C r s fo a b st = (List.replicate 22 0, 0, false, 1) := by unfold firE; rw [if_neg h]
    rw [e]
    exact first_no hC fo r s a b st h
set_option maxHeartbeats 4000000 in
set_option maxRecDepth 100000 in
theorem at_m (hC : Cd w (.slice ca N cc) C) (hok : ∀ d ∈ C, d.set.ok) (fo : Bool) (r : Int) (s : ByteArray) (hz : s.size ≤ 1000000) (a st : Int) :
    Calls Tryz.prog 24 #[.agg #[.slice ca N cc, .int .i64 r, .bool fo], .string s, .int .i64 a, .int .i64 st] w fun e w' => e = .returned (ansV (firE C r s fo a a st)) ∧ Kp w w' := by
  obtain ⟨dM, hM1, hM2⟩ := rowMatch
  have HT : Hid (Tryz.prog.underlying 25 = some dM ∧ dM.isRow = true) := ⟨hM1, hM2⟩
  clear hM1 hM2
  obtain ⟨ZL, hZL⟩ : ∃ L, z22 = L := ⟨_, rfl⟩
  have HZ : Hid (ZL.length = 22) := by rw [← hZL]; exact z22_len
  obtain ⟨p, hp⟩ : ∃ b, w.heap.size = b := ⟨_, rfl⟩
  have HP : Hid (w.heap.size = p) := hp
  obtain ⟨W1, hW1⟩ : ∃ W, (w.alloc (.cells #[.slice ca N cc, .int .i64 r, .bool fo] 32)).alloc (.cells #[.int .i64 0, .int .i64 0, .int .i64 0, .int .i64 0, .int .i64 0, .int .i64 0, .int .i64 0, .int .i64 0, .int .i64 0, .int .i64 0, .int .i64 0, .int .i64 0, .int .i64 0, .int .i64 0, .int .i64 0, .int .i64 0, .int .i64 0, .int .i64 0, .int .i64 0, .int .i64 0, .int .i64 0, .int .i64 0] 25) = W := ⟨_, rfl⟩
  have H1 : Hid (Kp w W1 ∧ Lc 32 p [.slice ca N cc, .int .i64 r, .bool fo] W1 ∧ Lc 25 (p + 1) ZL W1) := by
    rw [← hW1, ← hp, ← hZL]
    have e2 := Lc.new (w.alloc (.cells #[.slice ca N cc, .int .i64 r, .bool fo] 32)) z22 25
    rw [alloc_size] at e2
    exact ⟨kp_trans (kp_alloc _ _) (kp_alloc _ _), (Lc.new w [.slice ca N cc, .int .i64 r, .bool fo] 32).kp (kp_alloc _ _), e2⟩
  obtain ⟨X, hX⟩ : ∃ X, firE C r s fo a a st = X := ⟨_, rfl⟩
  rw [hX]
  have HC : Hid (Calls Tryz.prog 49 #[.agg #[.slice ca N cc, .int .i64 r, .bool fo], .string s, .int .i64 a, .int .i64 a, .int .i64 st] W1 fun e w' => e = .returned (.tuple #[.agg (slv X.1).toArray, .int .i64 X.2.1, .bool X.2.2.1, .int .u16 X.2.2.2]) ∧ Kp W1 w') := by
    have := first_any (hC.kp H1.out.1) hok fo r s hz a a st (.inl rfl)
    rw [hX] at this
    exact this
  have HL : Hid (X.1.length = 22) := by show _ = _; rw [← hX]; exact firE_len _ _ _ _ _ _ _
  obtain ⟨LX, hLX⟩ : ∃ L, slv X.1 = L := ⟨_, rfl⟩
  have HLX : Hid (LX.length = 22 ∧ (∀ v ∈ LX, v.oneCell' = true) ∧ slv X.1 = LX) := by rw [← hLX]; exact ⟨by rw [slv_len]; exact HL.out, slv_one _, rfl⟩
  rw [hLX] at HC
  obtain ⟨l, n, bb, er⟩ := X
  have c0 : W1.cell? ⟨p, 0, none⟩ = some (.slice ca N cc) := H1.out.2.1.at rfl
  have c1 : W1.cell? ⟨p, 1, none⟩ = some (.int .i64 r) := H1.out.2.1.at rfl
  have c2 : W1.cell? ⟨p, 2, none⟩ = some (.bool fo) := H1.out.2.1.at rfl
  clear hX hLX hC hok hZL hz
  go_enter Tryz.func24, Tryz.ntmps24
  go_upto_region 1 with fail
  try rw [hW1]
  try rw [hp]
  clear hW1 hp
  go_wp2_with (first | (go_at_call 49; refine Calls.mono HC.out ?_; rintro e W2 ⟨rfl, q⟩; have H2 : Hid (Kp w W2 ∧ Lc 25 (p + 1) ZL W2) := ⟨kp_trans H1.out.1 q, H1.out.2.2.kp q⟩; clear q) | (refine wpList_store_box H2.out.2 0 LX rfl 25 (.tmp 8) (.tmp 18) rfl rfl rfl (by rw [Nat.zero_add, HLX.out.1, HZ.out]; exact Nat.le_refl _) (by rw [HLX.out.1]; exact sizeMatch) HLX.out.2.1 (sets_full _ _ (by rw [HLX.out.1, HZ.out])) ?_; intro W7 q1 q2 q3; have H7 : Hid (Lc 25 (p + 1) LX W7 ∧ Kp w W7) := ⟨q1, H2.out.1.trans (q2.below H2.out.1.size fun j hj q => by unfold On at q; have := HP.out; omega)⟩; clear q1 q2 q3))
  (try simp only [Exit.inBlock, Exit.then])
  refine bodyPost_ret (results_box4 rfl rfl H7.out.1 HT.out.1 HT.out.2 (by rw [HLX.out.1]; exact sizeMatch)) rfl ?_
  refine ⟨?_, H7.out.2⟩
  unfold ansV
  rw [HLX.out.2.2]
  rfl
set_option maxHeartbeats 4000000 in
set_option maxRecDepth 100000 in
theorem from_m (hC : Cd w (.slice ca N cc) C) (hok : ∀ d ∈ C, d.set.ok) (fo : Bool) (r : Int) (s : ByteArray) (hz : s.size ≤ 1000000) (a st : Int) :
    Calls Tryz.prog 20 #[.agg #[.slice ca N cc, .int .i64 r, .bool fo], .string s, .int .i64 a, .int .i64 st] w fun e w' => e = .returned (ansV (firE C r s fo a (s.size : Int) st)) ∧ Kp w w' := by
  obtain ⟨dM, hM1, hM2⟩ := rowMatch
  have HT : Hid (Tryz.prog.underlying 25 = some dM ∧ dM.isRow = true) := ⟨hM1, hM2⟩
  clear hM1 hM2
  obtain ⟨ZL, hZL⟩ : ∃ L, z22 = L := ⟨_, rfl⟩
  have HZ : Hid (ZL.length = 22) := by rw [← hZL]; exact z22_len
  obtain ⟨p, hp⟩ : ∃ b, w.heap.size = b := ⟨_, rfl⟩
  have HP : Hid (w.heap.size = p) := hp
  obtain ⟨W1, hW1⟩ : ∃ W, (w.alloc (.cells #[.slice ca N cc, .int .i64 r, .bool fo] 32)).alloc (.cells #[.int .i64 0, .int .i64 0, .int .i64 0, .int .i64 0, .int .i64 0, .int .i64 0, .int .i64 0, .int .i64 0, .int .i64 0, .int .i64 0, .int .i64 0, .int .i64 0, .int .i64 0, .int .i64 0, .int .i64 0, .int .i64 0, .int .i64 0, .int .i64 0, .int .i64 0, .int .i64 0, .int .i64 0, .int .i64 0] 25) = W := ⟨_, rfl⟩
  have H1 : Hid (Kp w W1 ∧ Lc 32 p [.slice ca N cc, .int .i64 r, .bool fo] W1 ∧ Lc 25 (p + 1) ZL W1) := by
    rw [← hW1, ← hp, ← hZL]
    have e2 := Lc.new (w.alloc (.cells #[.slice ca N cc, .int .i64 r, .bool fo] 32)) z22 25
    rw [alloc_size] at e2
    exact ⟨kp_trans (kp_alloc _ _) (kp_alloc _ _), (Lc.new w [.slice ca N cc, .int .i64 r, .bool fo] 32).kp (kp_alloc _ _), e2⟩
  obtain ⟨X, hX⟩ : ∃ X, firE C r s fo a (s.size : Int) st = X := ⟨_, rfl⟩
  rw [hX]
  have HC : Hid (Calls Tryz.prog 49 #[.agg #[.slice ca N cc, .int .i64 r, .bool fo], .string s, .int .i64 a, .int .i64 (s.size : Int), .int .i64 st] W1 fun e w' => e = .returned (.tuple #[.agg (slv X.1).toArray, .int .i64 X.2.1, .bool X.2.2.1, .int .u16 X.2.2.2]) ∧ Kp W1 w') := by
    have := first_any (hC.kp H1.out.1) hok fo r s hz a (s.size : Int) st (.inr rfl)
    rw [hX] at this
    exact this
  have HL : Hid (X.1.length = 22) := by show _ = _; rw [← hX]; exact firE_len _ _ _ _ _ _ _
  obtain ⟨LX, hLX⟩ : ∃ L, slv X.1 = L := ⟨_, rfl⟩
  have HLX : Hid (LX.length = 22 ∧ (∀ v ∈ LX, v.oneCell' = true) ∧ slv X.1 = LX) := by rw [← hLX]; exact ⟨by rw [slv_len]; exact HL.out, slv_one _, rfl⟩
  rw [hLX] at HC
  obtain ⟨l, n, bb, er⟩ := X
  have c0 : W1.cell? ⟨p, 0, none⟩ = some (.slice ca N cc) := H1.out.2.1.at rfl
  have c1 : W1.cell? ⟨p, 1, none⟩ = some (.int .i64 r) := H1.out.2.1.at rfl
  have c2 : W1.cell? ⟨p, 2, none⟩ = some (.bool fo) := H1.out.2.1.at rfl
  clear hX hLX hC hok hZL hz
  go_enter Tryz.func20, Tryz.ntmps20
  go_upto_region 1 with fail
  try rw [hW1]
  try rw [hp]
  clear hW1 hp
  go_wp2_with (first | (go_at_call 49; refine Calls.mono HC.out ?_; rintro e W2 ⟨rfl, q⟩; have H2 : Hid (Kp w W2 ∧ Lc 25 (p + 1) ZL W2) := ⟨kp_trans H1.out.1 q, H1.out.2.2.kp q⟩; clear q) | (refine wpList_store_box H2.out.2 0 LX rfl 25 (.tmp 8) (.tmp 19) rfl rfl rfl (by rw [Nat.zero_add, HLX.out.1, HZ.out]; exact Nat.le_refl _) (by rw [HLX.out.1]; exact sizeMatch) HLX.out.2.1 (sets_full _ _ (by rw [HLX.out.1, HZ.out])) ?_; intro W7 q1 q2 q3; have H7 : Hid (Lc 25 (p + 1) LX W7 ∧ Kp w W7) := ⟨q1, H2.out.1.trans (q2.below H2.out.1.size fun j hj q => by unfold On at q; have := HP.out; omega)⟩; clear q1 q2 q3))
  (try simp only [Exit.inBlock, Exit.then])
  refine bodyPost_ret (results_box4 rfl rfl H7.out.1 HT.out.1 HT.out.2 (by rw [HLX.out.1]; exact sizeMatch)) rfl ?_
  refine ⟨?_, H7.out.2⟩
  unfold ansV
  rw [HLX.out.2.2]
  rfl
end
end Go.Proofs.YtalmajiflmejcaaGreat
/- Sets in what is read and compiled by the document are sets. -/
namespace Go.Proofs.YtalmajiflmejcaaGreat
open Go.ChangeShapes Go.WideShapes Go.ChangeAt Go.RowKit
set_option linter.unusedVariables false
set_option linter.unusedSimpArgs false
/-- Each node's set is one. -/
def NS (r : FS) : Prop := ∀ d ∈ r.nds, d.set.ok
section
variable {s last : ByteArray} {r : FS} {b : Bs} {BRS : FS → Nat × FS}
theorem NS.wrong (h : NS r) (e a : Nat) : NS (wrongF e a r) := by unfold wrongF; split <;> exact h
theorem NS.node (h : NS r) {d : Nd} (hd : d.set.ok) : NS (nodeF d r).2 := by
  unfold nodeF
  split
  · exact h
  · intro x hx
    rcases List.mem_append.1 hx with q | q
    · exact h x q
    · simp only [List.mem_singleton] at q; subst q; exact hd
theorem NS.row (h : NS r) (op : Nat) (ks : List Nat) : NS (rowF op ks r).2 := by
  unfold rowF
  split
  · exact h.node ok_zero
  · exact h
  · exact h.node ok_zero
theorem NS.put (h : NS r) {d : Nd} (hd : d.set.ok) (m : Bool) : NS (putF d m r b).1 := h.node hd
theorem add_ok : ∀ (n : Nat) (q : S4) (c : Nat), q.ok → (n = 0 ∨ c + n ≤ 256) → (addL q c n).ok
  | 0, q, c, h, _ => h
  | n + 1, q, c, h, hc => add_ok n _ _ (ok_with h (by omega)) (by omega)
theorem clL_ok : ∀ (f a : Nat) (q : S4) (fl fi : Bool) (X : S4 × Bool × Nat), q.ok → clL s f a q fl fi = some X → X.1.ok
  | 0, a, q, fl, fi, X, h, e => by cases e
  | f + 1, a, q, fl, fi, X, h, e => by
    rw [clL] at e
    split at e
    · split at e
      · cases e; exact h
      split at e
      · exact clL_ok f _ _ _ _ X (ok_both h (nameF_ok _ _)) e
      · refine clL_ok f _ _ _ _ X (add_ok _ _ _ h ?_) e
        have := spF_le s a
        omega
    · cases e
theorem clF_ok (h : NS r) (o : Nat) : (clF s o r).1.ok ∧ NS (clF s o r).2.2 := by
  unfold clF
  split
  · exact ⟨ok_zero, h⟩
  · rename_i q fl en e
    have := clL_ok _ _ _ _ _ _ ok_zero e
    refine ⟨?_, ?_⟩
    · simp only
      split
      · exact ok_not this
      · exact this
    · simp only
      split
      · exact h.wrong _ _
      · exact h
theorem slC_ok (md cs nx c z : Nat) : (slC md cs nx c z).1.nd.set.ok := by
  unfold slC
  by_cases p1 : memB modS c = true
  · rw [if_pos p1]; exact ok_zero
  rw [if_neg p1]
  by_cases p2 : c = 99
  · rw [if_pos p2]; exact ok_zero
  rw [if_neg p2]
  by_cases p3 : c = 67
  · rw [if_pos p3]; exact ok_zero
  rw [if_neg p3]
  by_cases p4 : memB sgnS c = true
  · rw [if_pos p4]
    by_cases p5 : memB (plainS md) c = true
    · rw [if_pos p5]; exact ok_zero
    · rw [if_neg p5]; exact ok_zero
  rw [if_neg p4]
  by_cases p6 : 49 ≤ c ∧ c ≤ 57
  · rw [if_pos p6]; exact ok_zero
  rw [if_neg p6]
  by_cases p7 : knB (smI c) = true
  · rw [if_pos p7]; exact ok_fold _ _ (Nat.le_refl _)
  rw [if_neg p7]
  by_cases p8 : (letrF c).2 = true
  · rw [if_pos p8]; exact ok_zero
  rw [if_neg p8]
  by_cases p9 : c = 110
  · rw [if_pos p9]; exact ok_zero
  rw [if_neg p9]
  by_cases p10 : c = 122 ∧ z = 115
  · rw [if_pos p10]; exact ok_zero
  rw [if_neg p10]
  by_cases p11 : c = 122 ∧ z = 101
  · rw [if_pos p11]; exact ok_zero
  rw [if_neg p11]
  by_cases p12 : isB 119 c = true ∧ c ≠ 95
  · rw [if_pos p12]; exact ok_zero
  rw [if_neg p12]
  exact ok_zero
theorem tkF_ok (s : ByteArray) (md cs a : Nat) : (tkF s md cs a).1.nd.set.ok := by
  unfold tkF slashF
  repeat' split
  all_goals first | exact slC_ok _ _ _ _ _ | exact ok_zero
theorem NS.mny (h : NS r) (sg a nx : Nat) : NS (mnyF s sg a nx r b).1 := by
  unfold mnyF
  split
  · split
    · exact h.put ok_zero _
    · exact h.wrong _ _
  split
  · split
    · exact h.wrong _ _
    · exact h.node ok_zero
  · exact h.node ok_zero
theorem NS.lastL : ∀ (l : List Nat) (r : FS) (ks : List Nat), NS r → NS (lastL l r ks).1
  | [], r, ks, h => h
  | c :: cs, r, ks, h => by rw [Go.Proofs.YtalmajiflmejcaaGreat.lastL]; exact NS.lastL cs _ _ (h.node ok_zero)
theorem NS.lst (h : NS r) : NS (lastF last r).2 := (NS.lastL _ _ _ h).row _ _
/-- What is within a group keeps it. -/
def KB (BRS : FS → Nat × FS) : Prop := ∀ r, NS r → NS (BRS r).2
theorem NS.grp (hB : KB BRS) (h : NS r) (a : Nat) : NS (grpF s BRS a r b).1 := by
  unfold grpF
  split
  · exact h.wrong _ _
  have h1 : NS (BRS { r with g := r.g + 1 }).2 := hB _ h
  simp only
  split
  · exact h1
  split
  · exact h1.wrong _ _
  · refine NS.put ?_ ok_zero _
    exact h1
theorem NS.sgn (hB : KB BRS) (h : NS r) (c a nx : Nat) : NS (sgnF s last BRS c a nx r b).1 := by
  have h0 : NS { r with k := nx } := h
  unfold sgnF
  simp only
  split
  · split <;> exact h0.put ok_zero _
  split
  · split <;> exact h0.put ok_zero _
  split
  · exact h0.put ok_zero _
  split
  · exact h0.put ok_zero _
  split
  · exact h0.put ok_zero _
  split
  · exact h0.lst
  split
  · have h1 := clF_ok (s := s) h0 (nx - 1)
    split
    · refine NS.put ?_ h1.1 _
      exact h1.2
    · exact h1.2.put ok_zero _
  split
  · exact h0.grp hB _
  · exact h0.mny _ _ _
theorem NS.bch (hB : KB BRS) (wi : Bool) : ∀ (f : Nat) (r : FS) (b : Bs), NS r → NS (bchL s last BRS wi f r b).1
  | 0, r, b, h => h
  | f + 1, r, b, h => by
    rw [bchL]
    split
    · simp only
      split
      · exact h.wrong _ _
      split
      · refine NS.bch hB wi f _ _ ?_
        exact h
      split
      · exact h
      split
      · exact h.wrong _ _
      split
      · exact NS.bch hB wi f _ _ (h.sgn hB _ _ _)
      split
      · exact h.wrong _ _
      · refine NS.bch hB wi f _ _ (NS.put ?_ (tkF_ok _ _ _ _) _)
        exact h
    · exact h
theorem NS.bchF (hB : KB BRS) (wi : Bool) (h : NS r) : NS (bchF s last BRS wi r).2 := (NS.bch hB wi _ _ _ h).row _ _
theorem NS.bss (hB : KB BRS) (wi : Bool) : ∀ (f : Nat) (r : FS) (ks : List Nat), NS r → NS (bssL s last BRS wi f r ks).1
  | 0, r, ks, h => h
  | f + 1, r, ks, h => by
    rw [bssL]
    split
    · split
      · refine NS.bss hB wi f _ _ (NS.bchF hB wi ?_)
        exact h
      · exact h
    · exact h
theorem NS.bssF (hB : KB BRS) (wi : Bool) (h : NS r) : NS (bssF s last BRS wi r).2 := (NS.bss hB wi _ _ _ (h.bchF hB wi)).row _ _
theorem bsN_ns : ∀ n, KB (bsN s last n)
  | 0 => fun r h => h
  | n + 1 => fun r h => h.bssF (bsN_ns n) true
theorem refF_ns {X : Nat × FS} (h : refF s last = .ok X) : NS X.2 := by
  unfold refF at h
  split at h
  · cases h
  simp only at h
  split at h
  · cases h
  split at h
  · cases h
  · injection h with h
    rw [← h]
    refine NS.bssF (bsN_ns 9) false ?_
    intro d hd
    cases hd
end
/-- Each instruction's set is one. -/
def CS (x : Ds) : Prop := ∀ d ∈ x.c, d.set.ok
def KS (N : Int → Ds → Ds) : Prop := ∀ k x, CS x → CS (N k x)
section
variable {x : Ds} {N : Int → Ds → Ds}
theorem CS.lay (h : CS x) {d : Ins} (hd : d.set.ok) : CS (layE d x).2 := by
  unfold layE
  split
  · exact h
  · intro e he
    rcases List.mem_append.1 he with q | q
    · exact h e q
    · simp only [List.mem_singleton] at q; subst q; exact hd
theorem toL_ok {c : List Ins} (h : ∀ d ∈ c, d.set.ok) (k out : Nat) (lz : Bool) : ∀ d ∈ toL c k out lz, d.set.ok := by
  unfold toL
  split
  · exact h
  · rename_i d e
    intro x hx
    rcases List.mem_or_eq_of_mem_set hx with q | q
    · exact h x q
    · subst q; exact h d (List.mem_of_getElem? e)
theorem setX_ok {c : List Ins} (h : ∀ d ∈ c, d.set.ok) (k out : Nat) : ∀ d ∈ setX c k out, d.set.ok := by
  unfold setX
  split
  · exact h
  · rename_i d e
    intro x hx
    rcases List.mem_or_eq_of_mem_set hx with q | q
    · exact h x q
    · subst q; exact h d (List.mem_of_getElem? e)
theorem CS.tos (lz : Bool) : ∀ (l : List Nat) (x : Ds), CS x → CS (tosE lz l x)
  | [], x, h => h
  | a :: l, x, h => by rw [tosE]; exact CS.tos lz l _ (toL_ok h _ _ _)
theorem CS.jmp : ∀ (l : List Nat) (x : Ds), CS x → CS (jmpE l x)
  | [], x, h => h
  | a :: l, x, h => by rw [jmpE]; exact CS.jmp l _ (setX_ok h _ _)
theorem CS.round (hN : KS N) (k : Int) (h : CS x) : CS (roundE N k x).2 := by
  unfold roundE
  refine CS.lay (hN _ _ (CS.lay ?_ ok_zero)) ok_zero
  exact h.lay ok_zero
theorem CS.rep (hN : KS N) (k : Int) : ∀ (n : Nat) (x : Ds), CS x → CS (repE N k n x)
  | 0, x, h => h
  | n + 1, x, h => by
    rw [repE]
    split
    · exact h
    · exact CS.rep hN k n _ (hN _ _ h)
theorem CS.tries (hN : KS N) (k : Int) : ∀ (n : Nat) (l : List Nat) (x : Ds), CS x → CS (triesE N k n l x).2
  | 0, l, x, h => h
  | n + 1, l, x, h => by
    rw [triesE]
    split
    · exact h
    · exact CS.tries hN k n _ _ (h.round hN k)
theorem CS.many (hN : KS N) (k : Int) (mn : Nat) (mx : Int) (lz : Bool) (h : CS x) : CS (manyE N k mn mx lz x) := by
  have h1 := CS.rep hN k mn x h
  unfold manyE
  split
  · exact h1
  split
  · unfold infE
    exact CS.tos lz _ _ (CS.lay (h1.round hN k) ok_zero)
  · exact CS.tos lz _ _ (CS.tries hN k _ _ _ h1)
theorem CS.way (hN : KS N) (k : Int) (h : CS x) : CS (wayE N k x).2 := by
  unfold wayE
  exact toL_ok (CS.lay (hN _ _ (h.lay ok_zero)) ok_zero) _ _ _
theorem CS.alt (hN : KS N) : ∀ (ks : List Int) (l : List Nat) (x : Ds), CS x → CS (altL N ks l x).2
  | [], l, x, h => h
  | k :: ks, l, x, h => by
    rw [altL]
    split
    · exact h
    split
    · exact hN _ _ h
    · exact CS.alt hN ks _ _ (h.way hN k)
theorem CS.cat (hN : KS N) : ∀ (ks : List Int) (x : Ds), CS x → CS (catE N ks x)
  | [], x, h => h
  | k :: ks, x, h => by rw [catE]; exact CS.cat hN ks _ (hN _ _ h)
theorem CS.step (hN : KS N) {d : Nq} (hd : d.set.ok) (h : CS x) : CS (stepE N d x) := by
  unfold stepE
  split
  · exact h.lay ok_zero
  split
  · exact h.lay ok_zero
  split
  · exact h.lay hd
  split
  · exact CS.cat hN _ _ h
  split
  · exact CS.jmp _ _ (CS.alt hN _ _ _ h)
  split
  · exact h.many hN _ _ _ _
  split
  · exact CS.lay (hN _ _ (h.lay ok_zero)) ok_zero
  split
  · exact h.lay ok_zero
  split
  · exact h.lay ok_zero
  split
  · exact h.lay ok_zero
  split
  · exact h.lay ok_zero
  · exact h
theorem node_cs {L : List Nq} (hL : ∀ d ∈ L, d.set.ok) : ∀ f, KS (nodeE L f)
  | 0 => fun k x h => h
  | f + 1 => fun k x h => by
    rw [nodeE]
    split
    · exact h
    · refine h.step (node_cs hL f) ?_
      unfold nodeAt
      cases e : L[k.toNat]? with
      | none => exact ok_zero
      | some d => exact hL d (List.mem_of_getElem? e)
theorem cpd_ok (s : ByteArray) (fold : Bool) : ∀ d ∈ (cpdE s fold).1, d.set.ok := by
  unfold cpdE
  split
  · intro d hd; cases hd
  · rename_i root r e
    have h1 : ∀ d ∈ r.nds.map Nd.q, d.set.ok := by
      intro d hd
      obtain ⟨y, hy, rfl⟩ := List.mem_map.1 hd
      exact refF_ns e y hy
    unfold cmpE
    split
    · intro d hd; cases hd
    split
    · intro d hd; cases hd
    · refine CS.lay (node_cs h1 _ _ _ ?_) ok_zero
      intro d hd; cases hd
end
end Go.Proofs.YtalmajiflmejcaaGreat
/- Two matches that are the same are equal. -/
namespace Go.Proofs.YtalmajiflmejcaaGreat
open Go.ChangeShapes Go.WideShapes Go.ChangeAt Go.RowKit
set_option linter.unusedVariables false
set_option linter.unusedSimpArgs false
theorem list22 {l : List Int} (h : l.length = 22) : ∃ a0 a1 a2 a3 a4 a5 a6 a7 a8 a9 a10 a11 a12 a13 a14 a15 a16 a17 a18 a19 a20 a21, l = [a0, a1, a2, a3, a4, a5, a6, a7, a8, a9, a10, a11, a12, a13, a14, a15, a16, a17, a18, a19, a20, a21] := by
  match l, h with
  | [a0, a1, a2, a3, a4, a5, a6, a7, a8, a9, a10, a11, a12, a13, a14, a15, a16, a17, a18, a19, a20, a21], _ => exact ⟨a0, a1, a2, a3, a4, a5, a6, a7, a8, a9, a10, a11, a12, a13, a14, a15, a16, a17, a18, a19, a20, a21, rfl⟩
/-- A number that fits. -/
def Rg (x : Int) : Prop := -9223372036854775808 ≤ x ∧ x ≤ 9223372036854775807
theorem wf_int {x : Int} (h : Rg x) : (Lit.int .i64 x).wf = true := by
  show (decide (IntKind.i64.min ≤ x) && decide (x ≤ IntKind.i64.max)) = true
  have e1 : IntKind.i64.min = -9223372036854775808 := by decide
  have e2 : IntKind.i64.max = 9223372036854775807 := by decide
  rw [e1, e2, Bool.and_eq_true, decide_eq_true_eq, decide_eq_true_eq]
  exact h
theorem kl_int {x : Int} (h : Rg x) (d : Nat) : Tryz.prog.keyLits (d + 1) 3 [.int .i64 x] = some [.int .i64 x] := by
  simp only [Program.keyLits, Tryz.underlying3]
  rw [if_pos ⟨trivial, wf_int h⟩]
theorem cellsInt : Tryz.prog.cellsOf 3 = 1 := by kernel_rfl
theorem cellsArr : Tryz.prog.cellsOf 23 = 10 := by kernel_rfl
theorem cellsMatch : Tryz.prog.cellsOf 25 = 22 := by kernel_rfl
theorem kl_arr {a0 a1 a2 a3 a4 a5 a6 a7 a8 a9 : Int} (ha0 : Rg a0) (ha1 : Rg a1) (ha2 : Rg a2) (ha3 : Rg a3) (ha4 : Rg a4) (ha5 : Rg a5) (ha6 : Rg a6) (ha7 : Rg a7) (ha8 : Rg a8) (ha9 : Rg a9) (d : Nat) : Tryz.prog.keyLits (d + 2) 23 [.int .i64 a0, .int .i64 a1, .int .i64 a2, .int .i64 a3, .int .i64 a4, .int .i64 a5, .int .i64 a6, .int .i64 a7, .int .i64 a8, .int .i64 a9] = some [.int .i64 a0, .int .i64 a1, .int .i64 a2, .int .i64 a3, .int .i64 a4, .int .i64 a5, .int .i64 a6, .int .i64 a7, .int .i64 a8, .int .i64 a9] := by
  rw [show d + 2 = (d + 1) + 1 from rfl]
  unfold Program.keyLits
  rw [Tryz.underlying23]
  simp only
  rw [if_pos (by rw [cellsArr]; rfl), cellsInt, show List.range 10 = [0, 1, 2, 3, 4, 5, 6, 7, 8, 9] from rfl]
  simp [kl_int, ha0, ha1, ha2, ha3, ha4, ha5, ha6, ha7, ha8, ha9]
theorem keyMatch : Tryz.prog.keyTypeAt 5 25 = true := by kernel_rfl
theorem kl_match {a0 a1 a2 a3 a4 a5 a6 a7 a8 a9 a10 a11 a12 a13 a14 a15 a16 a17 a18 a19 a20 a21 : Int} (ha0 : Rg a0) (ha1 : Rg a1) (ha2 : Rg a2) (ha3 : Rg a3) (ha4 : Rg a4) (ha5 : Rg a5) (ha6 : Rg a6) (ha7 : Rg a7) (ha8 : Rg a8) (ha9 : Rg a9) (ha10 : Rg a10) (ha11 : Rg a11) (ha12 : Rg a12) (ha13 : Rg a13) (ha14 : Rg a14) (ha15 : Rg a15) (ha16 : Rg a16) (ha17 : Rg a17) (ha18 : Rg a18) (ha19 : Rg a19) (ha20 : Rg a20) (ha21 : Rg a21) : Tryz.prog.keyLits 10 25 [.int .i64 a0, .int .i64 a1, .int .i64 a2, .int .i64 a3, .int .i64 a4, .int .i64 a5, .int .i64 a6, .int .i64 a7, .int .i64 a8, .int .i64 a9, .int .i64 a10, .int .i64 a11, .int .i64 a12, .int .i64 a13, .int .i64 a14, .int .i64 a15, .int .i64 a16, .int .i64 a17, .int .i64 a18, .int .i64 a19, .int .i64 a20, .int .i64 a21] = some [.int .i64 a0, .int .i64 a1, .int .i64 a2, .int .i64 a3, .int .i64 a4, .int .i64 a5, .int .i64 a6, .int .i64 a7, .int .i64 a8, .int .i64 a9, .int .i64 a10, .int .i64 a11, .int .i64 a12, .int .i64 a13, .int .i64 a14, .int .i64 a15, .int .i64 a16, .int .i64 a17, .int .i64 a18, .int .i64 a19, .int .i64 a20, .int .i64 a21] := by
  rw [show (10 : Nat) = 9 + 1 from rfl]
  unfold Program.keyLits
  rw [Tryz.underlying25]
  simp only
  rw [if_pos ⟨by rw [cellsMatch]; rfl, by kernel_rfl⟩]
  simp only [List.mapM_cons, List.mapM_nil, cellsInt, cellsArr, List.drop_zero, List.drop_succ_cons, List.take_succ_cons, List.take_zero]
  rw [kl_int ha0 8, kl_int ha1 8, kl_arr ha2 ha3 ha4 ha5 ha6 ha7 ha8 ha9 ha10 ha11 7, kl_arr ha12 ha13 ha14 ha15 ha16 ha17 ha18 ha19 ha20 ha21 7]
  rfl
theorem eq_match (l : List Int) (h : l.length = 22) (hr : ∀ x ∈ l, Rg x) (w : World) : (Op.equalIn 10000 25 (.agg (slv l).toArray) (.agg (slv l).toArray)).run Tryz.prog w = .ok true w := by
  obtain ⟨a0, a1, a2, a3, a4, a5, a6, a7, a8, a9, a10, a11, a12, a13, a14, a15, a16, a17, a18, a19, a20, a21, rfl⟩ := list22 h
  have hk : Tryz.prog.keyLits 10 25 (Value.agg (slv [a0, a1, a2, a3, a4, a5, a6, a7, a8, a9, a10, a11, a12, a13, a14, a15, a16, a17, a18, a19, a20, a21]).toArray).cells.toList = some [.int .i64 a0, .int .i64 a1, .int .i64 a2, .int .i64 a3, .int .i64 a4, .int .i64 a5, .int .i64 a6, .int .i64 a7, .int .i64 a8, .int .i64 a9, .int .i64 a10, .int .i64 a11, .int .i64 a12, .int .i64 a13, .int .i64 a14, .int .i64 a15, .int .i64 a16, .int .i64 a17, .int .i64 a18, .int .i64 a19, .int .i64 a20, .int .i64 a21] := kl_match (hr _ (by simp)) (hr _ (by simp)) (hr _ (by simp)) (hr _ (by simp)) (hr _ (by simp)) (hr _ (by simp)) (hr _ (by simp)) (hr _ (by simp)) (hr _ (by simp)) (hr _ (by simp)) (hr _ (by simp)) (hr _ (by simp)) (hr _ (by simp)) (hr _ (by simp)) (hr _ (by simp)) (hr _ (by simp)) (hr _ (by simp)) (hr _ (by simp)) (hr _ (by simp)) (hr _ (by simp)) (hr _ (by simp)) (hr _ (by simp))
  obtain ⟨r, h1, h2⟩ := run_equalIn_deep (P := Tryz.prog) 9995 5 25 keyMatch w 10 10 _ _ _ _ (by kernel_rfl) (by kernel_rfl) hk hk
  rw [h1, h2.2 rfl]
end Go.Proofs.YtalmajiflmejcaaGreat
/- The document's compiler as functions that the kernel runs; the chapter's examples. -/
namespace Go.Proofs.YtalmajiflmejcaaGreat
open Go.ChangeShapes Go.WideShapes Go.ChangeAt Go.RowKit
set_option linter.unusedVariables false
set_option linter.unusedSimpArgs false
def gol (W : Int → List Bool → Bool × List Bool) : List Int → List Bool → Bool × List Bool
  | [], sn => (true, sn)
  | k :: ks, sn => if (W k sn).1 = false then (false, (W k sn).2) else gol W ks (W k sn).2
def wlk2 (L : List Nq) (G : Int) : Nat → Int → List Bool → Bool × List Bool
  | 0, _, sn => (false, sn)
  | f + 1, k, sn =>
    if hasB L k = false ∨ sn.getD k.toNat true = true then (false, sn)
    else if (kidsR (nodeAt L k) && numbR G (nodeAt L k) && timR (nodeAt L k)) = false then (false, sn.set k.toNat true)
    else if (gol (wlk2 L G f) (nodeAt L k).kids (sn.set k.toNat true)).1 = false then (false, (gol (wlk2 L G f) (nodeAt L k).kids (sn.set k.toNat true)).2)
    else (if (nodeAt L k).op = 7 then sngR L (nodeAt L ((nodeAt L k).kids.headD 0)) else true, (gol (wlk2 L G f) (nodeAt L k).kids (sn.set k.toNat true)).2)
theorem wlkL_eq {L : List Nq} {G : Int} {f : Nat} (h : ∀ k sn, wlk L G f k sn = wlk2 L G f k sn) : ∀ (ks : List Int) (sn : List Bool), wlkL L G f ks sn = gol (wlk2 L G f) ks sn
  | [], sn => by rw [wlkL, gol]
  | k :: ks, sn => by rw [wlkL, gol, h, wlkL_eq h ks]
theorem wlk_eq (L : List Nq) (G : Int) : ∀ (f : Nat) (k : Int) (sn : List Bool), wlk L G f k sn = wlk2 L G f k sn
  | 0, k, sn => by rw [wlk, wlk2]
  | f + 1, k, sn => by rw [wlk, wlk2, wlkL_eq (wlk_eq L G f)]
def sndR2 (L : List Nq) (root G : Int) : Bool := decide (0 ≤ G ∧ G ≤ 9) && (wlk2 L G (L.length + 1) root (List.replicate L.length false)).1
def cmpE2 (L : List Nq) (root G cs : Int) (fold : Bool) : Nat × List Ins × Nat × Bool :=
  if sndR2 L root G = false then (1, [], 0, false)
  else if (layE { op := 14 } (nodeE L (L.length + 1) root ⟨[], 0, false⟩)).2.lg = true ∨ 2000 < (layE { op := 14 } (nodeE L (L.length + 1) root ⟨[], 0, false⟩)).2.c.length then (33, [], 0, false)
  else (0, (layE { op := 14 } (nodeE L (L.length + 1) root ⟨[], 0, false⟩)).2.c, (layE { op := 14 } (nodeE L (L.length + 1) root ⟨[], 0, false⟩)).2.r, if cs = 0 then fold else cs == 1)
def cpdE2 (s : ByteArray) (fold : Bool) : List Ins × Nat × Bool :=
  match refF s ⟨#[]⟩ with
  | .error _ => ([], 0, false)
  | .ok (root, r) => (cmpE2 (r.nds.map Nd.q) root r.g r.cs fold).2
theorem cpd_eq (s : ByteArray) (fold : Bool) : cpdE s fold = cpdE2 s fold := by
  have e : ∀ L root G, sndR L root G = sndR2 L root G := by intro L root G; unfold sndR sndR2; rw [wlk_eq]
  unfold cpdE cpdE2
  cases refF s ⟨#[]⟩ with
  | error E => rfl
  | ok X =>
    obtain ⟨root, r⟩ := X
    simp only
    unfold cmpE cmpE2
    rw [e]
def exA (X : List Ins × Nat × Bool) : List Int × Nat × Bool × Nat := firE X.1 X.2.1 ⟨#[97, 97, 98]⟩ X.2.2 0 0 100
def exB (X : List Ins × Nat × Bool) : List Int × Nat × Bool × Nat := firE X.1 X.2.1 ⟨#[97, 97]⟩ X.2.2 0 0 100
set_option maxRecDepth 100000 in
theorem ex_a2 : ((exA (cpdE2 ⟨#[97, 42]⟩ false)).2.2.1 && (exA (cpdE2 ⟨#[97, 42]⟩ false)).2.2.2 == 0 && (exA (cpdE2 ⟨#[97, 42]⟩ false)).1.getD 0 0 == 0 && (exA (cpdE2 ⟨#[97, 42]⟩ false)).1.getD 1 0 == 2) = true := by kernel_rfl
set_option maxRecDepth 100000 in
theorem ex_b2 : ((exB (cpdE2 ⟨#[92, 40, 97, 92, 41, 92, 49]⟩ false)).2.2.1 && (exB (cpdE2 ⟨#[92, 40, 97, 92, 41, 92, 49]⟩ false)).2.2.2 == 0 && (exB (cpdE2 ⟨#[92, 40, 97, 92, 41, 92, 49]⟩ false)).1.getD 1 0 == 2 && (exB (cpdE2 ⟨#[92, 40, 97, 92, 41, 92, 49]⟩ false)).1.getD 3 0 == 0 && (exB (cpdE2 ⟨#[92, 40, 97, 92, 41, 92, 49]⟩ false)).1.getD 13 0 == 1) = true := by kernel_rfl
theorem ex_a : (exA (cpdE ⟨#[97, 42]⟩ false)).2.2.1 = true ∧ (exA (cpdE ⟨#[97, 42]⟩ false)).2.2.2 = 0 ∧ (exA (cpdE ⟨#[97, 42]⟩ false)).1.getD 0 0 = 0 ∧ (exA (cpdE ⟨#[97, 42]⟩ false)).1.getD 1 0 = 2 := by
  have := ex_a2
  rw [← cpd_eq] at this
  simp only [Bool.and_eq_true, beq_iff_eq] at this
  exact ⟨this.1.1.1, this.1.1.2, this.1.2, this.2⟩
theorem ex_b : (exB (cpdE ⟨#[92, 40, 97, 92, 41, 92, 49]⟩ false)).2.2.1 = true ∧ (exB (cpdE ⟨#[92, 40, 97, 92, 41, 92, 49]⟩ false)).2.2.2 = 0 ∧ (exB (cpdE ⟨#[92, 40, 97, 92, 41, 92, 49]⟩ false)).1.getD 1 0 = 2 ∧ (exB (cpdE ⟨#[92, 40, 97, 92, 41, 92, 49]⟩ false)).1.getD 3 0 = 0 ∧ (exB (cpdE ⟨#[92, 40, 97, 92, 41, 92, 49]⟩ false)).1.getD 13 0 = 1 := by
  have := ex_b2
  rw [← cpd_eq] at this
  simp only [Bool.and_eq_true, beq_iff_eq] at this
  exact ⟨this.1.1.1.1, this.1.1.1.2, this.1.1.2, this.1.2, this.2⟩
end Go.Proofs.YtalmajiflmejcaaGreat
/- The statements' own known: the chapter's examples. -/
namespace Go.Proofs.YtalmajiflmejcaaGreat
open Go.ChangeShapes Go.WideShapes Go.ChangeAt Go.RowKit
set_option linter.unusedVariables false
set_option linter.unusedSimpArgs false
set_option maxHeartbeats 8000000 in
set_option maxRecDepth 100000 in
theorem known_m (w : World) : Calls Tryz.prog 19 #[] w fun e w' => e = .returned (.bool true) ∧ Kp w w' := by
  obtain ⟨XA, hXA⟩ : ∃ X, cpdE ⟨#[97, 42]⟩ false = X := ⟨_, rfl⟩
  have HXA : Hid (cpdE ⟨#[97, 42]⟩ false = XA) := hXA
  have HOKA : Hid (∀ d ∈ XA.1, d.set.ok) := by rw [← hXA]; exact cpd_ok _ _
  obtain ⟨YA, hYA⟩ : ∃ Y, exA XA = Y := ⟨_, rfl⟩
  have hEA := ex_a
  rw [hXA, hYA] at hEA
  obtain ⟨LA, hLA⟩ : ∃ L, slv YA.1 = L := ⟨_, rfl⟩
  have hlA : YA.1.length = 22 := by rw [← hYA]; exact firE_len _ _ _ _ _ _ _
  have HYA : Hid (exA XA = YA ∧ YA.2.2.1 = true ∧ YA.2.2.2 = 0) := ⟨hYA, hEA.1, hEA.2.1⟩
  have HLA : Hid (LA.length = 22 ∧ (∀ v ∈ LA, v.oneCell' = true) ∧ slv YA.1 = LA) := by rw [← hLA]; exact ⟨by rw [slv_len]; exact hlA, slv_one _, rfl⟩
  obtain ⟨XB, hXB⟩ : ∃ X, cpdE ⟨#[92, 40, 97, 92, 41, 92, 49]⟩ false = X := ⟨_, rfl⟩
  have HXB : Hid (cpdE ⟨#[92, 40, 97, 92, 41, 92, 49]⟩ false = XB) := hXB
  have HOKB : Hid (∀ d ∈ XB.1, d.set.ok) := by rw [← hXB]; exact cpd_ok _ _
  obtain ⟨YB, hYB⟩ : ∃ Y, exB XB = Y := ⟨_, rfl⟩
  have hEB := ex_b
  rw [hXB, hYB] at hEB
  obtain ⟨LB, hLB⟩ : ∃ L, slv YB.1 = L := ⟨_, rfl⟩
  have hlB : YB.1.length = 22 := by rw [← hYB]; exact firE_len _ _ _ _ _ _ _
  have HYB : Hid (exB XB = YB ∧ YB.2.2.1 = true ∧ YB.2.2.2 = 0) := ⟨hYB, hEB.1, hEB.2.1⟩
  have HLB : Hid (LB.length = 22 ∧ (∀ v ∈ LB, v.oneCell' = true) ∧ slv YB.1 = LB) := by rw [← hLB]; exact ⟨by rw [slv_len]; exact hlB, slv_one _, rfl⟩
  have lA0 : LA[0]? = some (.int .i64 0) := by rw [← hLA, slv_get (by omega) 0, hEA.2.2.1]
  have lA1 : LA[1]? = some (.int .i64 2) := by rw [← hLA, slv_get (by omega) 0, hEA.2.2.2]
  have lB1 : LB[1]? = some (.int .i64 2) := by rw [← hLB, slv_get (by omega) 0, hEB.2.2.1]
  have lB3 : LB[3]? = some (.int .i64 0) := by rw [← hLB, slv_get (by omega) 0, hEB.2.2.2.1]
  have lB13 : LB[13]? = some (.int .i64 1) := by rw [← hLB, slv_get (by omega) 0, hEB.2.2.2.2]
  have HLL : Hid (LA[0]? = some (.int .i64 0) ∧ LA[1]? = some (.int .i64 2) ∧ LB[1]? = some (.int .i64 2) ∧ LB[3]? = some (.int .i64 0) ∧ LB[13]? = some (.int .i64 1)) := ⟨lA0, lA1, lB1, lB3, lB13⟩
  clear hXA hXB hYA hYB hEA hEB hLA hLB hlA hlB lA0 lA1 lB1 lB3 lB13
  go_enter Tryz.func19, Tryz.ntmps19
  have HCA : Hid (Calls Tryz.prog 21 #[.string ⟨#[97, 42]⟩, .bool false] w (CpdP w XA)) := by have := compiled_any ⟨#[97, 42]⟩ false w; rw [HXA.out] at this; exact this
  go_upto_region 2 with (go_at_call 21; refine Calls.mono HCA.out ?_; rintro e vA ⟨q1, cv, rfl, q2⟩; obtain ⟨caA, ccA, rfl, u1, u2⟩ := owns_form q2; have HVA : Hid (Kp w vA ∧ Cd vA (.slice caA XA.1.length ccA) XA.1) := ⟨kp_trans (Below.refl _ _) q1, row_cd q2⟩; clear q1 q2)
  obtain ⟨NA, hNA⟩ : ∃ N, XA.1.length = N := ⟨_, rfl⟩
  rw [hNA] at HVA u1 ⊢
  obtain ⟨bA, hbA⟩ : ∃ b, vA.heap.size = b := ⟨_, rfl⟩
  obtain ⟨W1, hW1⟩ : ∃ W, vA.alloc (.cells #[.slice caA NA ccA, .int .i64 XA.2.1, .bool XA.2.2] 32) = W := ⟨_, rfl⟩
  have HW1 : Hid (Kp w W1 ∧ Kp vA W1 ∧ Lc 32 bA [.slice caA NA ccA, .int .i64 XA.2.1, .bool XA.2.2] W1 ∧ Cd W1 (.slice caA NA ccA) XA.1) := by
    rw [← hW1, ← hbA]
    exact ⟨kp_trans HVA.out.1 (kp_alloc _ _), kp_alloc _ _, Lc.new vA [.slice caA NA ccA, .int .i64 XA.2.1, .bool XA.2.2] _, HVA.out.2.kp (kp_alloc _ _)⟩
  try rw [hW1]
  try rw [hbA]
  clear hW1 hbA hNA u2 u1
  have HCB : Hid (Calls Tryz.prog 21 #[.string ⟨#[92, 40, 97, 92, 41, 92, 49]⟩, .bool false] W1 (CpdP W1 XB)) := by have := compiled_any ⟨#[92, 40, 97, 92, 41, 92, 49]⟩ false W1; rw [HXB.out] at this; exact this
  go_upto_region 3 with (go_at_call 21; refine Calls.mono HCB.out ?_; rintro e vB ⟨q1, cv, rfl, q2⟩; obtain ⟨caB, ccB, rfl, u1, u2⟩ := owns_form q2; have HKB : Hid (Kp W1 vB) := q1; have HVB : Hid (Kp w vB ∧ Cd vB (.slice caB XB.1.length ccB) XB.1) := ⟨kp_trans HW1.out.1 q1, row_cd q2⟩; clear q1 q2)
  obtain ⟨NB, hNB⟩ : ∃ N, XB.1.length = N := ⟨_, rfl⟩
  rw [hNB] at HVB u1 ⊢
  obtain ⟨bB, hbB⟩ : ∃ b, vB.heap.size = b := ⟨_, rfl⟩
  obtain ⟨W2, hW2⟩ : ∃ W, vB.alloc (.cells #[.slice caB NB ccB, .int .i64 XB.2.1, .bool XB.2.2] 32) = W := ⟨_, rfl⟩
  have HW2 : Hid (Kp w W2 ∧ Kp vB W2 ∧ Lc 32 bB [.slice caB NB ccB, .int .i64 XB.2.1, .bool XB.2.2] W2 ∧ Cd W2 (.slice caB NB ccB) XB.1) := by
    rw [← hW2, ← hbB]
    exact ⟨kp_trans HVB.out.1 (kp_alloc _ _), kp_alloc _ _, Lc.new vB [.slice caB NB ccB, .int .i64 XB.2.1, .bool XB.2.2] _, HVB.out.2.kp (kp_alloc _ _)⟩
  try rw [hW2]
  try rw [hbB]
  clear hW2 hbB hNB u2 u1
  have HK12 : Hid (Kp W1 W2) := by
    have h1 := HVB.out.1
    exact kp_trans HKB.out HW2.out.2.1
  have p0A : W2.cell? ⟨bA, 0, none⟩ = some (.slice caA NA ccA) := (HW1.out.2.2.1.kp HK12.out).at rfl
  have p1A : W2.cell? ⟨bA, 1, none⟩ = some (.int .i64 XA.2.1) := (HW1.out.2.2.1.kp HK12.out).at rfl
  have p2A : W2.cell? ⟨bA, 2, none⟩ = some (.bool XA.2.2) := (HW1.out.2.2.1.kp HK12.out).at rfl
  have HATA : Hid (Calls Tryz.prog 24 #[.agg #[.slice caA NA ccA, .int .i64 XA.2.1, .bool XA.2.2], .string ⟨#[97, 97, 98]⟩, .int .i64 0, .int .i64 100] W2 fun e w' => e = .returned (.tuple #[.agg LA.toArray, .int .i64 YA.2.1, .bool true, .int .u16 0]) ∧ Kp W2 w') := by
    have := at_m (HW1.out.2.2.2.kp HK12.out) (HOKA.out) XA.2.2 XA.2.1 ⟨#[97, 97, 98]⟩ (by decide) 0 100
    rw [show firE XA.1 XA.2.1 ⟨#[97, 97, 98]⟩ XA.2.2 0 0 100 = YA from HYA.out.1] at this
    unfold ansV at this
    rw [HLA.out.2.2, HYA.out.2.1, HYA.out.2.2] at this
    exact this
  go_upto_region 4 with (first | (go_at_call 24; refine Calls.mono HATA.out ?_; rintro e tA ⟨rfl, q⟩; have HTA : Hid (Kp W2 tA) := q; clear q; obtain ⟨mA, hmA⟩ : ∃ b, tA.heap.size = b := ⟨_, rfl⟩; obtain ⟨zA, hzA⟩ : ∃ W, tA.alloc (.cells #[.int .i64 0, .int .i64 0, .int .i64 0, .int .i64 0, .int .i64 0, .int .i64 0, .int .i64 0, .int .i64 0, .int .i64 0, .int .i64 0, .int .i64 0, .int .i64 0, .int .i64 0, .int .i64 0, .int .i64 0, .int .i64 0, .int .i64 0, .int .i64 0, .int .i64 0, .int .i64 0, .int .i64 0, .int .i64 0] 25) = W := ⟨_, rfl⟩; have HZA : Hid (Kp W2 zA ∧ Lc 25 mA z22 zA ∧ tA.heap.size = mA) := (by rw [← hzA, ← hmA]; exact ⟨kp_trans HTA.out (kp_alloc _ _), Lc.new tA z22 _, rfl⟩)) | (refine wpList_store_box HZA.out.2.1 0 LA rfl 25 (.tmp 3) (.tmp 16) rfl rfl rfl (by rw [Nat.zero_add, HLA.out.1]; exact Nat.le_refl _) (by rw [HLA.out.1]; exact sizeMatch) HLA.out.2.1 (sets_full _ _ (by rw [HLA.out.1]; rfl)) ?_; intro W3 q1 q2 q3; have HW3 : Hid (Kp W2 W3 ∧ Lc 25 mA LA W3) := ⟨HZA.out.1.trans (q2.below HZA.out.1.size fun j hj q => by unfold On at q; have h1 := HZA.out.2.2; have h2 := HTA.out.size; omega), q1⟩; clear q1 q2 q3))
  clear hmA hzA p0A p1A p2A
  have p0B : W3.cell? ⟨bB, 0, none⟩ = some (.slice caB NB ccB) := (HW2.out.2.2.1.kp HW3.out.1).at rfl
  have p1B : W3.cell? ⟨bB, 1, none⟩ = some (.int .i64 XB.2.1) := (HW2.out.2.2.1.kp HW3.out.1).at rfl
  have p2B : W3.cell? ⟨bB, 2, none⟩ = some (.bool XB.2.2) := (HW2.out.2.2.1.kp HW3.out.1).at rfl
  have HATB : Hid (Calls Tryz.prog 24 #[.agg #[.slice caB NB ccB, .int .i64 XB.2.1, .bool XB.2.2], .string ⟨#[97, 97]⟩, .int .i64 0, .int .i64 100] W3 fun e w' => e = .returned (.tuple #[.agg LB.toArray, .int .i64 YB.2.1, .bool true, .int .u16 0]) ∧ Kp W3 w') := by
    have := at_m (HW2.out.2.2.2.kp HW3.out.1) (HOKB.out) XB.2.2 XB.2.1 ⟨#[97, 97]⟩ (by decide) 0 100
    rw [show firE XB.1 XB.2.1 ⟨#[97, 97]⟩ XB.2.2 0 0 100 = YB from HYB.out.1] at this
    unfold ansV at this
    rw [HLB.out.2.2, HYB.out.2.1, HYB.out.2.2] at this
    exact this
  go_upto_region 5 with (first | (go_at_call 24; refine Calls.mono HATB.out ?_; rintro e tB ⟨rfl, q⟩; have HTB : Hid (Kp W3 tB) := q; clear q; obtain ⟨mB, hmB⟩ : ∃ b, tB.heap.size = b := ⟨_, rfl⟩; obtain ⟨zB, hzB⟩ : ∃ W, tB.alloc (.cells #[.int .i64 0, .int .i64 0, .int .i64 0, .int .i64 0, .int .i64 0, .int .i64 0, .int .i64 0, .int .i64 0, .int .i64 0, .int .i64 0, .int .i64 0, .int .i64 0, .int .i64 0, .int .i64 0, .int .i64 0, .int .i64 0, .int .i64 0, .int .i64 0, .int .i64 0, .int .i64 0, .int .i64 0, .int .i64 0] 25) = W := ⟨_, rfl⟩; have HZB : Hid (Kp W3 zB ∧ Lc 25 mB z22 zB ∧ tB.heap.size = mB) := (by rw [← hzB, ← hmB]; exact ⟨kp_trans HTB.out (kp_alloc _ _), Lc.new tB z22 _, rfl⟩)) | (refine wpList_store_box HZB.out.2.1 0 LB rfl 25 (.tmp 7) (.tmp 23) rfl rfl rfl (by rw [Nat.zero_add, HLB.out.1]; exact Nat.le_refl _) (by rw [HLB.out.1]; exact sizeMatch) HLB.out.2.1 (sets_full _ _ (by rw [HLB.out.1]; rfl)) ?_; intro W4 q1 q2 q3; have HW4 : Hid (Kp W3 W4 ∧ Lc 25 mB LB W4) := ⟨HZB.out.1.trans (q2.below HZB.out.1.size fun j hj q => by unfold On at q; have h1 := HZB.out.2.2; have h2 := HTB.out.size; omega), q1⟩; clear q1 q2 q3))
  clear hmB hzB p0B p1B p2B
  have a0 : W4.cell? ⟨mA, 0, none⟩ = some (.int .i64 0) := (HW3.out.2.kp HW4.out.1).at HLL.out.1
  have a1 : W4.cell? ⟨mA, 1, none⟩ = some (.int .i64 2) := (HW3.out.2.kp HW4.out.1).at HLL.out.2.1
  have e1 : W4.cell? ⟨mB, 1, none⟩ = some (.int .i64 2) := HW4.out.2.at HLL.out.2.2.1
  have e3 : W4.cell? ⟨mB, 3, none⟩ = some (.int .i64 0) := HW4.out.2.at HLL.out.2.2.2.1
  have e13 : W4.cell? ⟨mB, 13, none⟩ = some (.int .i64 1) := HW4.out.2.at HLL.out.2.2.2.2
  go_wp2_with fail
  go_ret
  exact ⟨rfl, kp_trans HW2.out.1 (kp_trans HW3.out.1 HW4.out.1)⟩
end Go.Proofs.YtalmajiflmejcaaGreat
/- What At and From answer, plain: numbers that fit; the least place. -/
namespace Go.Proofs.YtalmajiflmejcaaGreat
open Go.ChangeShapes Go.WideShapes Go.ChangeAt Go.RowKit
set_option linter.unusedVariables false
set_option linter.unusedSimpArgs false
section
variable {C : List Ins} {s : ByteArray} {fo : Bool} {R : Nat}
/-- Each number of a match is a place, or none. -/
theorem mt_in {N Z k : Nat} {t : Ty} (h : Okt N Z t) (hk : k ≤ Z) : ∀ x ∈ mtE t k, -1 ≤ x ∧ x ≤ (Z : Int) := by
  have h1 := mt_ok h hk
  have hg : ∀ n, (-1 ≤ (grpE t.ss n).1 ∧ (grpE t.ss n).1 ≤ (Z : Int)) ∧ (-1 ≤ (grpE t.ss n).2 ∧ (grpE t.ss n).2 ≤ (Z : Int)) := by
    intro n
    by_cases e : (grpE t.ss n).1 = -1
    · rw [e, grp_two _ _ e]; omega
    · have := grp_ok h n e; omega
  intro x hx
  unfold mtE at hx
  rcases List.mem_cons.1 hx with rfl | hx
  · omega
  rcases List.mem_cons.1 hx with rfl | hx
  · omega
  rcases List.mem_append.1 hx with hx | hx
  · unfold mtB at hx
    obtain ⟨n, _, rfl⟩ := List.mem_map.1 hx
    split
    · omega
    · exact (hg n).1
  · unfold mtN at hx
    obtain ⟨n, _, rfl⟩ := List.mem_map.1 hx
    split
    · omega
    · exact (hg n).2
theorem frm_new (hf : Fit C R) (hN : 0 < C.length) {f k st : Nat} (hk : k + f ≤ s.size + 1) (hst : st ≤ 5000) :
    Okt (C.length + 1) s.size (frmE C s fo f k (newE R st)).2.2.t ∧ (frmE C s fo f k (newE R st)).2.2.st ≤ st ∧ ((frmE C s fo f k (newE R st)).1 ≠ 0 → k ≤ (frmE C s fo f k (newE R st)).2.1 ∧ (frmE C s fo f k (newE R st)).2.1 ≤ s.size) := by
  have h := frm_ok (fo := fo) hf hN f k (newE R st) (new_ok (M := 5000) hst) rfl hk
  exact ⟨h.1.t, h.2.1, h.2.2⟩
theorem fir_in (r : Int) {a b st : Int} (hb : a = b ∨ b = (s.size : Int)) : ∀ x ∈ (firE C r s fo a b st).1, -1 ≤ x ∧ x ≤ (s.size : Int) := by
  have hz : ∀ x ∈ List.replicate 22 (0 : Int), -1 ≤ x ∧ x ≤ (s.size : Int) := by
    intro x hx; rw [(List.mem_replicate.1 hx).2]; omega
  unfold firE
  split
  · rename_i h
    obtain ⟨f1, f2, f3, f4, f5⟩ := sndF_fit h.2.2.2.2
    have q := frm_new (s := s) (fo := fo) f5 f1 (f := (b + 1 - a).toNat) (k := a.toNat) (st := st.toNat) (by omega) (by omega)
    unfold ansE
    split
    · rename_i e
      exact mt_in q.1 (q.2.2 (by omega)).2
    split
    · exact hz
    · exact hz
  · exact hz
theorem rg_of {l : List Int} (hs : s.size ≤ 1000000) (h : ∀ x ∈ l, -1 ≤ x ∧ x ≤ (s.size : Int)) : ∀ x ∈ l, Rg x := by
  intro x hx
  have := h x hx
  unfold Rg
  omega
/-- At one place. -/
theorem ans_one (C : List Ins) (R : Nat) (s : ByteArray) (fo : Bool) (j st : Nat) :
    ((atE C s fo j (newE R st)).1 = 0 → (ansE C R s fo 1 j st).2.2 = (false, 0)) ∧ ((atE C s fo j (newE R st)).1 = 1 → (ansE C R s fo 1 j st).2.2 = (true, 0) ∧ (ansE C R s fo 1 j st).1 = mtE (atE C s fo j (newE R st)).2.t j) := by
  have e : frmE C s fo 1 j (newE R st) = if (atE C s fo j (newE R st)).1 = 0 then (0, j + 1, (atE C s fo j (newE R st)).2) else ((atE C s fo j (newE R st)).1, j, (atE C s fo j (newE R st)).2) := rfl
  constructor
  · intro h
    unfold ansE
    rw [e, if_pos h]
    rfl
  · intro h
    have hn : ¬ (atE C s fo j (newE R st)).1 = 0 := by omega
    rw [if_neg hn] at e
    unfold ansE
    rw [e, if_pos h]
    exact ⟨rfl, rfl⟩
theorem fir_one {r : Int} (h : sndF C r = true) {j : Nat} (hj : j ≤ s.size) : firE C r s fo j j 5000 = ansE C r.toNat s fo 1 j 5000 := by
  unfold firE
  rw [if_pos ⟨by omega, by omega, by omega, by omega, h⟩, show ((j : Int) + 1 - (j : Int)).toNat = 1 by omega]
  rfl
/-- What From tells is what At tells at the least place at which there is a match. -/
theorem least_fir {r : Int} (he : (firE C r s fo 0 s.size 5000).2.2.2 = 0) : ∃ K, K ≤ s.size + 1 ∧ (∀ j, j < K → (firE C r s fo j j 5000).2.2 = (false, 0)) ∧
    (K ≤ s.size → (firE C r s fo 0 s.size 5000).2.2.1 = true ∧ (firE C r s fo K K 5000).2.2 = (true, 0) ∧ (firE C r s fo K K 5000).1 = (firE C r s fo 0 s.size 5000).1) ∧ (K = s.size + 1 → (firE C r s fo 0 s.size 5000).2.2.1 = false) := by
  have hS : sndF C r = true := by
    unfold firE at he
    split at he
    · rename_i q; exact q.2.2.2.2
    · cases he
  obtain ⟨f1, f2, f3, f4, f5⟩ := sndF_fit hS
  have e : firE C r s fo 0 s.size 5000 = ansE C r.toNat s fo (s.size + 1) 0 5000 := by
    unfold firE
    rw [if_pos ⟨by omega, by omega, by omega, by omega, hS⟩, show ((s.size : Int) + 1 - 0).toNat = s.size + 1 by omega]
    rfl
  rw [e] at he ⊢
  have h2 : (frmE C s fo (s.size + 1) 0 (newE r.toNat 5000)).1 ≠ 2 := by
    intro q
    unfold ansE at he
    rw [q] at he
    cases he
  have hl := least (fo := fo) (M := 5000) f5 f1 (s.size + 1) 0 (newE r.toNat 5000) (new_ok (Nat.le_refl _)) rfl rfl (by omega) h2
  by_cases h0 : (frmE C s fo (s.size + 1) 0 (newE r.toNat 5000)).1 = 0
  · refine ⟨s.size + 1, Nat.le_refl _, fun j hj => ?_, fun q => by omega, fun _ => ?_⟩
    · rw [fir_one hS (by omega)]
      exact (ans_one C r.toNat s fo j 5000).1 (hl.1 h0 j (Nat.zero_le _) (by omega))
    · unfold ansE; rw [h0]; rfl
  · obtain ⟨k1, k2, k3, k4⟩ := hl.2 h0
    have h1 : (frmE C s fo (s.size + 1) 0 (newE r.toNat 5000)).1 = 1 := by
      have := at_cases (C := C) (s := s) (fo := fo) (frmE C s fo (s.size + 1) 0 (newE r.toNat 5000)).2.1 (newE r.toNat 5000)
      rw [k3] at this
      omega
    refine ⟨(frmE C s fo (s.size + 1) 0 (newE r.toNat 5000)).2.1, by omega, fun j hj => ?_, fun q => ?_, fun q => by omega⟩
    · rw [fir_one hS (by omega)]
      exact (ans_one C r.toNat s fo j 5000).1 (k2 j (Nat.zero_le _) hj)
    · rw [fir_one hS q]
      obtain ⟨a1, a2⟩ := (ans_one C r.toNat s fo _ 5000).2 (k3.trans h1)
      refine ⟨?_, a1, ?_⟩
      · unfold ansE; rw [if_pos h1]
      · rw [a2, k4]
        unfold ansE; rw [if_pos h1]
end
end Go.Proofs.YtalmajiflmejcaaGreat
/- What From answers, plain: its bounds; with more steps there is the same. -/
namespace Go.Proofs.YtalmajiflmejcaaGreat
open Go.ChangeShapes Go.WideShapes Go.ChangeAt Go.RowKit
set_option linter.unusedVariables false
set_option linter.unusedSimpArgs false
/-- A try that goes on from a place: it is not ahead of it, nor are its slots. -/
def Lo (z : Nat) (t : Ty) : Prop := z ≤ t.k ∧ ∀ x ∈ t.ss, x = -1 ∨ (z : Int) ≤ x
/-- .. and all that are laid aside. -/
def LoM (z : Nat) (m : Mc) : Prop := Lo z m.t ∧ ∀ t ∈ m.sd, Lo z t
section
variable {C : List Ins} {s : ByteArray} {fo : Bool} {R z : Nat} {m : Mc}
theorem lo_pass (d : Ins) (h : LoM z m) : LoM z (passE s fo d m).2 := by
  have hp : ∀ k, z ≤ k → LoM z (m.pos k) := fun k hk => ⟨⟨hk, h.1.2⟩, h.2⟩
  unfold passE
  split
  · refine ⟨⟨h.1.1, fun x hx => ?_⟩, h.2⟩
    rcases List.mem_or_eq_of_mem_set hx with q | q
    · exact h.1.2 x q
    · subst q; right; have := h.1.1; omega
  split
  · unfold againE
    split
    · exact h
    split
    · exact hp _ (Nat.le_trans h.1.1 (Nat.le_add_right _ _))
    · exact h
  split
  · exact h
  split
  · exact h
  split
  · exact h
  split
  · exact h
  split
  · exact h
  split
  · exact h
  · unfold byteE
    split
    · exact hp _ (Nat.le_succ_of_le h.1.1)
    · exact h
theorem lo_do (N : Nat) (d : Ins) (h : LoM z m) : LoM z (doE N s fo d m).2 := by
  unfold doE
  split
  · refine ⟨h.1, fun t ht => ?_⟩
    rcases List.mem_append.1 ht with q | q
    · exact h.2 t q
    · simp only [List.mem_singleton] at q; subst q; exact h.1
  split
  · exact h
  split
  · exact lo_pass d (m := m.go (m.t.nx + 1)) h
  · exact h
theorem lo_go (n : Nat) : ∀ m : Mc, LoM z m → LoM z (goE C s fo n m).2 := by
  induction n with
  | zero => intro m h; exact h
  | succ n ih =>
    intro m h
    have h1 : LoM z (m.steps n) := h
    rw [goE]
    split
    · exact h1
    split
    · exact ih _ (lo_do _ _ h1)
    · exact lo_do _ _ h1
theorem lo_try (f : Nat) : ∀ m : Mc, (∀ t ∈ m.sd, Lo z t) → (tryE C s fo f m).1 ≠ 0 → Lo z (tryE C s fo f m).2.t := by
  induction f with
  | zero => intro m _ h; exact absurd rfl h
  | succ f ih =>
    intro m h hr
    rw [tryE] at hr ⊢
    split at hr
    · exact absurd rfl hr
    · rename_i m1 q
      have h1 : LoM z m1 := by
        unfold resE at q
        cases e : m.sd.getLast? with
        | none => rw [e] at q; cases q
        | some t =>
          rw [e] at q
          simp only [Option.map_some, Option.some.injEq] at q
          subst q
          exact ⟨h t (List.mem_of_getLast? e), fun u hu => h u (List.dropLast_subset _ hu)⟩
      have h2 := lo_go (C := C) (s := s) (fo := fo) m1.st m1 h1
      split at hr
      · rename_i e
        rw [if_pos e]
        exact ih _ h2.2 hr
      · rename_i e
        rw [if_neg e]
        exact h2.1
theorem lo_at (k : Nat) (ha : m.sd = []) (hr : (atE C s fo k m).1 ≠ 0) : Lo k (atE C s fo k m).2.t := by
  refine lo_try _ _ ?_ hr
  intro t ht
  simp only [ha, List.nil_append, List.mem_singleton] at ht
  subst ht
  refine ⟨Nat.le_refl _, fun x hx => ?_⟩
  rcases List.mem_or_eq_of_mem_set hx with q | q
  · exact .inl (List.mem_replicate.1 q).2
  · exact .inr (by omega)
theorem lo_frm {M : Nat} (hf : Fit C R) (hN : 0 < C.length) (f : Nat) : ∀ (k : Nat) (m : Mc), Okm C.length s.size R M m → m.sd = [] → k + f ≤ s.size + 1 → (frmE C s fo f k m).1 ≠ 0 →
    Lo (frmE C s fo f k m).2.1 (frmE C s fo f k m).2.2.t := by
  induction f with
  | zero => intro k m _ _ _ h; exact absurd rfl h
  | succ f ih =>
    intro k m h ha hk hr
    obtain ⟨a, b, c⟩ := at_ok (fo := fo) hf h hN (k := k) (by omega) ha
    rw [frmE] at hr ⊢
    split at hr
    · rename_i e
      rw [if_pos e]
      exact ih (k + 1) _ a (c e) (by omega) hr
    · rename_i e
      rw [if_neg e]
      exact lo_at k ha e
/-- What From answers, where it tells a match. -/
structure Bnd (a : Nat) (s : ByteArray) (l : List Int) : Prop where
  from_ : (a : Int) ≤ l.getD 0 0
  to_ : l.getD 0 0 ≤ l.getD 1 0
  end_ : l.getD 1 0 ≤ (s.size : Int)
  b0 : l.getD 2 0 = l.getD 0 0
  e0 : l.getD 12 0 = l.getD 1 0
  grp : ∀ i, i < 10 → (l.getD (2 + i) 0 = -1 ∧ l.getD (12 + i) 0 = -1) ∨ (0 ≤ l.getD (2 + i) 0 ∧ l.getD (2 + i) 0 ≤ l.getD (12 + i) 0 ∧ l.getD (12 + i) 0 ≤ (s.size : Int))
theorem mt_get (t : Ty) (k : Int) : (mtE t k).getD 0 0 = mtF t k ∧ (mtE t k).getD 1 0 = mtT t k ∧ (mtE t k).getD 2 0 = mtF t k ∧ (mtE t k).getD 12 0 = mtT t k := ⟨rfl, rfl, rfl, rfl⟩
theorem mt_grp (t : Ty) (k : Int) {i : Nat} (hi : i < 10) (h0 : i ≠ 0) : (mtE t k).getD (2 + i) 0 = (grpE t.ss i).1 ∧ (mtE t k).getD (12 + i) 0 = (grpE t.ss i).2 := by
  have : i = 1 ∨ i = 2 ∨ i = 3 ∨ i = 4 ∨ i = 5 ∨ i = 6 ∨ i = 7 ∨ i = 8 ∨ i = 9 := by omega
  rcases this with rfl | rfl | rfl | rfl | rfl | rfl | rfl | rfl | rfl <;> exact ⟨rfl, rfl⟩
theorem mt_bnd {N a k : Nat} {t : Ty} (h : Okt N s.size t) (hl : Lo k t) (hk : k ≤ s.size) (ha : a ≤ k) : Bnd a s (mtE t k) := by
  have h1 := mt_ok h hk
  obtain ⟨g0, g1, g2, g3⟩ := mt_get t k
  have hF : (k : Int) ≤ mtF t k := by
    unfold mtF plcE
    split
    · omega
    · rename_i e
      have hm : t.ss.getD 20 0 ∈ t.ss := by
        rw [List.getD_eq_getElem?_getD, List.getElem?_eq_getElem (by rw [h.len]; omega)]
        exact List.getElem_mem _
      rcases hl.2 _ hm with q | q
      · exact absurd q e
      · exact q
  refine ⟨by rw [g0]; omega, by rw [g0, g1]; omega, by rw [g1]; omega, by rw [g2, g0], by rw [g3, g1], fun i hi => ?_⟩
  by_cases hi0 : i = 0
  · subst hi0
    right
    rw [g2, g3]
    omega
  · obtain ⟨e1, e2⟩ := mt_grp t k hi hi0
    rw [e1, e2]
    by_cases e : (grpE t.ss i).1 = -1
    · exact .inl ⟨e, grp_two _ _ e⟩
    · exact .inr (grp_ok h i e)
/-- From, with so many steps, and with more. -/
theorem from_bnd (r : Int) {a n d : Nat} (ha : a ≤ s.size) (hn : n + d ≤ 5000) :
    ((firE C r s fo a s.size n).2.1 ≤ n) ∧ ((firE C r s fo a s.size n).2.2.1 = false → (firE C r s fo a s.size n).1 = List.replicate 22 0) ∧ ((firE C r s fo a s.size n).2.2.1 = true → Bnd a s (firE C r s fo a s.size n).1) ∧
    ((firE C r s fo a s.size n).2.2.2 = 0 → (firE C r s fo a s.size (n + d : Nat)).1 = (firE C r s fo a s.size n).1 ∧ (firE C r s fo a s.size n).2.1 ≤ (firE C r s fo a s.size (n + d : Nat)).2.1 ∧ (firE C r s fo a s.size (n + d : Nat)).2.2 = (firE C r s fo a s.size n).2.2) := by
  by_cases hS : sndF C r = true
  case neg =>
    have e : ∀ x : Nat, firE C r s fo a s.size x = (List.replicate 22 0, 0, false, 1) := fun x => by unfold firE; rw [if_neg (fun q => hS q.2.2.2.2)]
    rw [e, e]
    exact ⟨Nat.zero_le _, fun _ => rfl, fun q => (by cases q), fun q => (by cases q)⟩
  obtain ⟨f1, f2, f3, f4, f5⟩ := sndF_fit hS
  have e : ∀ x : Nat, x ≤ 5000 → firE C r s fo a s.size x = ansE C r.toNat s fo (s.size + 1 - a) a x := by
    intro x hx
    unfold firE
    rw [if_pos ⟨by omega, by omega, by omega, by omega, hS⟩, show ((s.size : Int) + 1 - (a : Int)).toNat = s.size + 1 - a by omega]
    simp only [Int.toNat_natCast]
  rw [e n (by omega), e (n + d) hn]
  have q := frm_new (s := s) (fo := fo) f5 f1 (f := s.size + 1 - a) (k := a) (st := n) (by omega) (by omega)
  have hlo := lo_frm (s := s) (fo := fo) (M := 5000) f5 f1 (s.size + 1 - a) a (newE r.toNat n) (new_ok (by omega)) rfl (by omega)
  have hm := more_frm (s := s) (fo := fo) (M := 5000) f5 f1 d (s.size + 1 - a) a (newE r.toNat n) (new_ok (by omega)) rfl (by omega)
  have en : (newE r.toNat n).more d = newE r.toNat (n + d) := rfl
  rw [en] at hm
  unfold ansE
  by_cases h1 : (frmE C s fo (s.size + 1 - a) a (newE r.toNat n)).1 = 1
  · have hm1 := hm (by omega)
    have hb := q.2.2 (by omega)
    rw [if_pos h1, hm1]
    simp only
    rw [if_pos h1]
    exact ⟨q.2.1, fun z => (by cases z), fun _ => mt_bnd q.1 (hlo (by omega)) hb.2 hb.1, fun _ => ⟨rfl, Nat.le_add_right _ _, rfl⟩⟩
  rw [if_neg h1]
  by_cases h2 : (frmE C s fo (s.size + 1 - a) a (newE r.toNat n)).1 = 2
  · rw [if_pos h2]
    exact ⟨Nat.zero_le _, fun _ => rfl, fun z => (by cases z), fun z => (by cases z)⟩
  · have hm1 := hm h2
    rw [if_neg h2, hm1]
    simp only
    rw [if_neg h1, if_neg h2]
    exact ⟨q.2.1, fun _ => (by trivial), fun z => (by cases z), fun _ => ⟨rfl, Nat.le_add_right _ _, rfl⟩⟩
end
end Go.Proofs.YtalmajiflmejcaaGreat
/- Programs of one instruction, plain. -/
namespace Go.Proofs.YtalmajiflmejcaaGreat
open Go.ChangeShapes Go.WideShapes Go.ChangeAt Go.RowKit
set_option linter.unusedVariables false
set_option linter.unusedSimpArgs false
/-- The program of one instruction. -/
def oneC (d : Ins) : List Ins := [d, { op := 14 }]
/-- A machine that has come behind the instruction, at a place. -/
def mcO (u : List Int) (k n : Nat) : Mc := ⟨u, [], { tyE k with nx := 1 }, [], n⟩
section
variable {s : ByteArray} {fo : Bool} {d : Ins}
theorem one_go (h4 : d.op ≠ 4) (h5 : d.op ≠ 5) (h14 : d.op ≠ 14) (u : List Int) (k n : Nat) :
    goE (oneC d) s fo (n + 2) ⟨u, [], tyE k, [], n + 2⟩ = if (passE s fo d (mcO u k (n + 1))).1 then (1, (passE s fo d (mcO u k (n + 1))).2.steps n) else (0, (passE s fo d (mcO u k (n + 1))).2) := by
  have e0 : insAt (oneC d) (⟨u, [], tyE k, [], n + 2⟩ : Mc).t.nx = d := rfl
  have e1 : doE (oneC d).length s fo d ((⟨u, [], tyE k, [], n + 2⟩ : Mc).steps (n + 1)) = passE s fo d (mcO u k (n + 1)) := by
    unfold doE
    rw [if_neg h4, if_neg h5, if_pos (by show 0 + 1 < 2; omega)]
    rfl
  rw [goE, e0, if_neg h14, e1]
  by_cases hp : (passE s fo d (mcO u k (n + 1))).1 = true
  · rw [if_pos hp, if_pos hp, goE]
    have e2 : (passE s fo d (mcO u k (n + 1))).2.t.nx = 1 := (pass_st s fo d (mcO u k (n + 1))).2.2
    rw [e2]
    rfl
  · rw [if_neg hp, if_neg hp]
theorem one_at (h4 : d.op ≠ 4) (h5 : d.op ≠ 5) (h14 : d.op ≠ 14) {m : Mc} (ha : m.sd = []) (k : Nat) {n : Nat} (hs : m.st = n + 2) :
    atE (oneC d) s fo k m = if (passE s fo d (mcO (undo m) k (n + 1))).1 then (1, (passE s fo d (mcO (undo m) k (n + 1))).2.steps n) else (0, (passE s fo d (mcO (undo m) k (n + 1))).2) := by
  have e : resE { m with sd := m.sd ++ [tyE k] } = some ⟨undo m, [], tyE k, [], n + 2⟩ := by
    unfold resE
    simp only [ha, List.nil_append, List.getLast?_singleton, Option.map_some, List.dropLast_singleton]
    rw [show (tyE k).ch = 0 from rfl, back_zero]
    rw [← hs]
    rfl
  unfold atE
  rw [tryE, e]
  simp only
  rw [one_go h4 h5 h14]
  by_cases hp : (passE s fo d (mcO (undo m) k (n + 1))).1 = true
  · rw [if_pos hp]
    rfl
  · rw [if_neg hp]
    simp only
    rw [if_pos trivial, tryE]
    have : resE (passE s fo d (mcO (undo m) k (n + 1))).2 = none := by
      unfold resE
      rw [(pass_st s fo d (mcO (undo m) k (n + 1))).2.1]
      rfl
    rw [this]
/-- An instruction that asks for something at a place, and goes on so far. -/
structure Asks (s : ByteArray) (fo : Bool) (d : Ins) (c : Nat → Bool) (adv : Nat) : Prop where
  n4 : d.op ≠ 4
  n5 : d.op ≠ 5
  n14 : d.op ≠ 14
  pass : ∀ u k n, k ≤ s.size → passE s fo d (mcO u k n) = (c k, if c k then (mcO u k n).pos (k + adv) else mcO u k n)
variable {c : Nat → Bool} {adv : Nat}
theorem Asks.at (h : Asks s fo d c adv) {m : Mc} (ha : m.sd = []) {k : Nat} (hk : k ≤ s.size) {n : Nat} (hs : m.st = n + 2) :
    atE (oneC d) s fo k m = if c k then (1, ((mcO (undo m) k n).pos (k + adv))) else (0, mcO (undo m) k (n + 1)) := by
  rw [one_at h.n4 h.n5 h.n14 ha k hs, h.pass _ _ _ hk]
  cases c k <;> rfl
theorem Asks.none (h : Asks s fo d c adv) (f : Nat) : ∀ (k : Nat) (m : Mc), m.sd = [] → f + 2 ≤ m.st → k + f ≤ s.size + 1 → (∀ j, k ≤ j → j < k + f → c j = false) → (frmE (oneC d) s fo f k m).1 = 0 := by
  induction f with
  | zero => intro k m _ _ _ _; rfl
  | succ f ih =>
    intro k m ha hs hk hc
    obtain ⟨n, hn⟩ : ∃ n, m.st = n + 2 := ⟨m.st - 2, by omega⟩
    rw [frmE, h.at ha (by omega) hn, hc k (Nat.le_refl _) (by omega)]
    exact ih (k + 1) _ rfl (by show f + 2 ≤ n + 1; omega) (by omega) fun j h1 h2 => hc j (by omega) (by omega)
theorem Asks.some (h : Asks s fo d c adv) (f : Nat) : ∀ (k : Nat) (m : Mc) (K : Nat), m.sd = [] → f + 2 ≤ m.st → k + f ≤ s.size + 1 → k ≤ K → K < k + f → c K = true → (∀ j, k ≤ j → j < K → c j = false) →
    (frmE (oneC d) s fo f k m).1 = 1 ∧ (frmE (oneC d) s fo f k m).2.1 = K ∧ (frmE (oneC d) s fo f k m).2.2.t = { tyE K with nx := 1, k := K + adv } := by
  induction f with
  | zero => intro k m K _ _ _ _ hK; omega
  | succ f ih =>
    intro k m K ha hs hk h1 h2 hK hc
    obtain ⟨n, hn⟩ : ∃ n, m.st = n + 2 := ⟨m.st - 2, by omega⟩
    rw [frmE, h.at ha (by omega) hn]
    by_cases e : k = K
    · subst e
      rw [hK]
      exact ⟨rfl, rfl, rfl⟩
    · rw [hc k (Nat.le_refl _) (by omega)]
      exact ih (k + 1) _ K rfl (by show f + 2 ≤ n + 1; omega) (by omega) (by omega) (by omega) hK fun j q1 q2 => hc j (by omega) q2
theorem mt_one (K adv : Nat) : (mtE { tyE K with nx := 1, k := K + adv } K).getD 0 0 = (K : Int) ∧ (mtE { tyE K with nx := 1, k := K + adv } K).getD 1 0 = ((K + adv : Nat) : Int) := by
  refine ⟨rfl, ?_⟩
  show max (K : Int) ((K + adv : Nat) : Int) = _
  omega
theorem fir_at {C : List Ins} {r : Int} (h : sndF C r = true) {j st : Nat} (hj : j ≤ s.size) (hst : st ≤ 5000) : firE C r s fo j j st = ansE C r.toNat s fo 1 j st := by
  unfold firE
  rw [if_pos ⟨by omega, by omega, by omega, by omega, h⟩, show ((j : Int) + 1 - (j : Int)).toNat = 1 by omega]
  rfl
theorem fir_from {C : List Ins} {r : Int} (h : sndF C r = true) {j st : Nat} (hj : j ≤ s.size) (hst : st ≤ 5000) : firE C r s fo j s.size st = ansE C r.toNat s fo (s.size + 1 - j) j st := by
  unfold firE
  rw [if_pos ⟨by omega, by omega, by omega, by omega, h⟩, show ((s.size : Int) + 1 - (j : Int)).toNat = s.size + 1 - j by omega]
  rfl
/-- At one place: is there one? -/
theorem Asks.fir (h : Asks s fo d c adv) {r : Int} (hS : sndF (oneC d) r = true) {k st : Nat} (hk : k ≤ s.size) (h2 : 2 ≤ st) (hst : st ≤ 5000) : (firE (oneC d) r s fo k k st).2.2 = (c k, 0) := by
  rw [fir_at hS hk hst]
  obtain ⟨n, hn⟩ : ∃ n, st = n + 2 := ⟨st - 2, by omega⟩
  have e := h.at (m := newE r.toNat st) rfl hk (n := n) hn
  have q := ans_one (oneC d) r.toNat s fo k st
  cases hc : c k with
  | false => rw [hc] at e; exact q.1 (by rw [e]; rfl)
  | true => rw [hc] at e; exact (q.2 (by rw [e]; rfl)).1
/-- From a place on: the first one. -/
theorem Asks.firF (h : Asks s fo d c adv) {r : Int} (hS : sndF (oneC d) r = true) {k st K : Nat} (hk : k ≤ s.size) (h2 : s.size + 3 ≤ st) (hst : st ≤ 5000) (h1 : k ≤ K) (h3 : K ≤ s.size) (hK : c K = true) (hc : ∀ j, k ≤ j → j < K → c j = false) :
    (firE (oneC d) r s fo k s.size st).2.2 = (true, 0) ∧ (firE (oneC d) r s fo k s.size st).1.getD 0 0 = (K : Int) ∧ (firE (oneC d) r s fo k s.size st).1.getD 1 0 = ((K + adv : Nat) : Int) := by
  rw [fir_from hS hk hst]
  obtain ⟨q1, q2, q3⟩ := h.some (s.size + 1 - k) k (newE r.toNat st) K rfl (by show s.size + 1 - k + 2 ≤ st; omega) (by omega) h1 (by omega) hK hc
  unfold ansE
  rw [if_pos q1, q2, q3]
  exact ⟨rfl, mt_one K adv⟩
theorem Asks.firN (h : Asks s fo d c adv) {r : Int} (hS : sndF (oneC d) r = true) {k st : Nat} (hk : k ≤ s.size) (h2 : s.size + 3 ≤ st) (hst : st ≤ 5000) (hc : ∀ j, k ≤ j → j ≤ s.size → c j = false) : (firE (oneC d) r s fo k s.size st).2.2 = (false, 0) := by
  rw [fir_from hS hk hst]
  have q1 := h.none (s.size + 1 - k) k (newE r.toNat st) rfl (by show s.size + 1 - k + 2 ≤ st; omega) (by omega) fun j a b => hc j a (by omega)
  unfold ansE
  rw [q1]
  rfl
theorem asks_bol (s : ByteArray) (fo : Bool) : Asks s fo { op := 8 } (fun k => k == 0) 0 := ⟨by decide, by decide, by decide, fun u k n _ => by
  show (k == 0, mcO u k n) = _
  congr 1
  split <;> rfl⟩
theorem asks_eol (s : ByteArray) (fo : Bool) : Asks s fo { op := 9 } (fun k => k == s.size) 0 := ⟨by decide, by decide, by decide, fun u k n _ => by
  show (k == s.size, mcO u k n) = _
  congr 1
  split <;> rfl⟩
theorem asks_bow (s : ByteArray) (fo : Bool) : Asks s fo { op := 10 } (fun k => wrdAt s k && !wrdAt s (k - 1 : Int)) 0 := ⟨by decide, by decide, by decide, fun u k n _ => by
  show (wrdAt s k && !wrdAt s (k - 1 : Int), mcO u k n) = _
  congr 1
  split <;> rfl⟩
theorem asks_eow (s : ByteArray) (fo : Bool) : Asks s fo { op := 11 } (fun k => wrdAt s (k - 1 : Int) && !wrdAt s k) 0 := ⟨by decide, by decide, by decide, fun u k n _ => by
  show (wrdAt s (k - 1 : Int) && !wrdAt s k, mcO u k n) = _
  congr 1
  split <;> rfl⟩
end
end Go.Proofs.YtalmajiflmejcaaGreat
/- A text as a pattern that is itself, plain: how it is read. -/
namespace Go.Proofs.YtalmajiflmejcaaGreat
open Go.ChangeShapes Go.WideShapes Go.ChangeAt Go.RowKit
set_option linter.unusedVariables false
set_option linter.unusedSimpArgs false
/-- A byte behind \V. -/
def esc1 (c : UInt8) : List UInt8 := if c = 92 then [92, 92] else [c]
def escL (l : List UInt8) : List UInt8 := l.flatMap esc1
/-- The text of a word as a pattern. -/
def wrdP (l : List UInt8) : ByteArray := ⟨([92, 86] ++ escL l).toArray⟩
def leafN (c : UInt8) : Nd := { op := 2, c := c.toNat }
theorem byteAt_list (l : List UInt8) (k : Nat) : byteAt ⟨l.toArray⟩ k = ((l[k]?).getD 0).toNat := by
  unfold byteAt
  show ((l.toArray.toList[k]?).map UInt8.toNat).getD 0 = _
  rw [List.toList_toArray]
  cases l[k]? <;> rfl
theorem esc_size (l : List UInt8) : (⟨l.toArray⟩ : ByteArray).size = l.length := by show l.toArray.size = _; simp
theorem at_mid (pre l : List UInt8) (j : Nat) : byteAt ⟨(pre ++ l).toArray⟩ (pre.length + j) = ((l[j]?).getD 0).toNat := by
  rw [byteAt_list, List.getElem?_append_right (by omega), show pre.length + j - pre.length = j by omega]
/-- The token of a byte behind \V. -/
theorem tk_esc (pre rest : List UInt8) (c : UInt8) (cs : Nat) : tkF ⟨(pre ++ (esc1 c ++ rest)).toArray⟩ 86 cs pre.length = (⟨0, leafN c, false, pre.length + (esc1 c).length, 86, cs⟩, true) := by
  have h0 := at_mid pre (esc1 c ++ rest) 0
  have h1 := at_mid pre (esc1 c ++ rest) 1
  rw [Nat.add_zero] at h0
  unfold tkF
  by_cases hc : c = 92
  · subst hc
    have e0 : byteAt ⟨(pre ++ (esc1 92 ++ rest)).toArray⟩ pre.length = 92 := h0
    have e1 : byteAt ⟨(pre ++ (esc1 92 ++ rest)).toArray⟩ (pre.length + 1) = 92 := h1
    rw [if_pos e0]
    unfold slashF
    rw [if_neg (by rw [esc_size, List.length_append, List.length_append]; show ¬ (pre.length + (2 + rest.length) ≤ pre.length + 1); omega), e1]
    rfl
  · have hn : c.toNat ≠ 92 := fun e => hc (UInt8.toNat_inj.1 e)
    have e : esc1 c = [c] := by unfold esc1; rw [if_neg hc]
    rw [e] at h0 ⊢
    have e0 : byteAt ⟨(pre ++ ([c] ++ rest)).toArray⟩ pre.length = c.toNat := h0
    rw [if_neg (by rw [e0]; exact hn), e0]
    rfl
section
variable {last : ByteArray} {BRS : FS → Nat × FS}
theorem esc_pos (c : UInt8) : 1 ≤ (esc1 c).length := by
  unfold esc1
  split
  · exact Nat.le_succ 1
  · exact Nat.le_refl 1
/-- The bytes of a text behind \V, one leaf each. -/
theorem bch_esc : ∀ (l pre : List UInt8) (f : Nat) (r : FS) (b : Bs), r.err = 0 → r.md = 86 → r.k = pre.length → r.nds.length + l.length ≤ 400 → l.length < f →
    bchL ⟨(pre ++ escL l).toArray⟩ last BRS false f r b = ({ r with k := pre.length + (escL l).length, nds := r.nds ++ l.map leafN }, ⟨b.ks ++ List.range' r.nds.length l.length, if l = [] then b.may else true⟩)
  | [], pre, f, r, b, he, hm, hk, hn, hf => by
    obtain ⟨f, rfl⟩ : ∃ g, f = g + 1 := ⟨f - 1, by omega⟩
    rw [bchL, if_neg (by rintro ⟨_, q⟩; rw [esc_size, hk] at q; simp [escL] at q)]
    obtain ⟨k, md, cs, g, dn, nds, err, pl⟩ := r
    obtain ⟨ks, may⟩ := b
    simp only at hk
    subst hk
    simp [escL]
  | c :: l, pre, f, r, b, he, hm, hk, hn, hf => by
    obtain ⟨f, rfl⟩ : ∃ g, f = g + 1 := ⟨f - 1, by omega⟩
    obtain ⟨k, md, cs, g, dn, nds, err, pl⟩ := r
    simp only at he hm hk hn
    subst he
    subst hm
    subst hk
    have e : pre ++ escL (c :: l) = pre ++ (esc1 c ++ escL l) := rfl
    have ht := tk_esc pre (escL l) c cs
    rw [e, bchL, if_pos ⟨rfl, by rw [esc_size, List.length_append, List.length_append]; have := esc_pos c; show pre.length < _; omega⟩]
    simp only
    rw [ht]
    simp only
    rw [if_neg (by decide), if_neg (by decide), if_neg (by decide), if_neg (by decide), if_neg (by decide), if_neg (by rintro ⟨q, _⟩; cases q)]
    have hp : putF (leafN c) ((leafN c).op != 14 && (leafN c).op != 15) ⟨pre.length + (esc1 c).length, 86, cs, g, dn, nds, 0, pl⟩ b = (⟨pre.length + (esc1 c).length, 86, cs, g, dn, nds ++ [leafN c], 0, pl⟩, ⟨b.ks ++ [nds.length], true⟩) := by
      unfold putF nodeF pieceF
      rw [if_neg (by show ¬ 400 < nds.length; rw [List.length_cons] at hn; omega)]
      rfl
    rw [hp]
    simp only
    have ih := bch_esc l (pre ++ esc1 c) f ⟨pre.length + (esc1 c).length, 86, cs, g, dn, nds ++ [leafN c], 0, pl⟩ ⟨b.ks ++ [nds.length], true⟩ rfl rfl (by rw [List.length_append]) (by rw [List.length_cons] at hn; simp; omega) (by rw [List.length_cons] at hf; omega)
    rw [List.append_assoc] at ih
    rw [ih]
    have e2 : (escL (c :: l)).length = (esc1 c).length + (escL l).length := by show (esc1 c ++ escL l).length = _; rw [List.length_append]
    have e3 : (if l = [] then true else true) = (if c :: l = [] then b.may else true) := by rw [if_neg (List.cons_ne_nil c l)]; split <;> rfl
    simp only [List.length_append, List.length_singleton, List.length_cons, List.map_cons, List.append_assoc, List.singleton_append, List.range'_succ, e2, Nat.add_assoc]
    rw [← e3]
    rfl
end
end Go.Proofs.YtalmajiflmejcaaGreat
/- A text as a pattern that is itself, plain: read and compiled. -/
namespace Go.Proofs.YtalmajiflmejcaaGreat
open Go.ChangeShapes Go.WideShapes Go.ChangeAt Go.RowKit
set_option linter.unusedVariables false
set_option linter.unusedSimpArgs false
def wordI (c : UInt8) : Ins := { op := 1, c := c.toNat }
def wordC (l : List UInt8) : List Ins := l.map wordI ++ [{ op := 14 }]
/-- The row of nodes of a text, and its root. -/
def wordN (l : List UInt8) : List Nd :=
  match l with
  | [] => [{ op := 1 }]
  | [c] => [leafN c]
  | c :: d :: r => (c :: d :: r).map leafN ++ [{ op := 5, kids := List.range' 0 (c :: d :: r).length }]
def wordR (l : List UInt8) : Nat :=
  match l with
  | [] => 0
  | [_] => 0
  | c :: d :: r => (c :: d :: r).length
theorem esc_le (l : List UInt8) : l.length ≤ (escL l).length ∧ (escL l).length ≤ 2 * l.length := by
  induction l with
  | nil => simp [escL]
  | cons c l ih =>
    have e : (escL (c :: l)).length = (esc1 c).length + (escL l).length := by show (esc1 c ++ escL l).length = _; rw [List.length_append]
    have h1 := esc_pos c
    have h2 : (esc1 c).length ≤ 2 := by unfold esc1; split <;> simp
    rw [e, List.length_cons]
    omega
theorem wrd_size (l : List UInt8) : (wrdP l).size = 2 + (escL l).length := by
  unfold wrdP
  rw [esc_size, List.length_append]
  rfl
theorem word_tk (l : List UInt8) : tkF (wrdP l) 109 0 0 = ({ tk0 2 109 0 with md := 86, non := true }, true) := by
  have h0 : byteAt (wrdP l) 0 = 92 := by unfold wrdP; rw [byteAt_list]; rfl
  have h1 : byteAt (wrdP l) 1 = 86 := by unfold wrdP; rw [byteAt_list]; rfl
  unfold tkF
  rw [if_pos h0]
  unfold slashF
  rw [if_neg (by rw [wrd_size]; omega), h1]
  rfl
def fsW (l : List UInt8) : FS := { fs0 with md := 86, k := 2 + (escL l).length, nds := l.map leafN }
theorem word_bch (l : List UInt8) (hl : l.length ≤ 100) (last : ByteArray) (BRS : FS → Nat × FS) :
    bchL (wrdP l) last BRS false ((wrdP l).size + 2) fs0 ⟨[], false⟩ = (fsW l, ⟨List.range' 0 l.length, if l = [] then false else true⟩) := by
  have he := esc_le l
  rw [bchL, if_pos ⟨rfl, by rw [wrd_size]; show 0 < _; omega⟩]
  simp only
  rw [show tkF (wrdP l) fs0.md fs0.cs fs0.k = ({ tk0 2 109 0 with md := 86, non := true }, true) from word_tk l]
  simp only
  rw [if_neg (by decide), if_pos trivial]
  have h := bch_esc (last := last) (BRS := BRS) l [92, 86] ((wrdP l).size + 1) { fs0 with md := 86, k := 2 } ⟨[], false⟩ rfl rfl rfl (by show 0 + l.length ≤ 400; omega) (by rw [wrd_size]; omega)
  exact h
theorem word_row (l : List UInt8) (hl : l.length ≤ 100) : rowF 5 (List.range' 0 l.length) (fsW l) = (wordR l, { fsW l with nds := wordN l }) := by
  match l with
  | [] => rfl
  | [c] => rfl
  | c :: d :: r =>
    have : List.range' 0 (c :: d :: r).length = 0 :: 1 :: List.range' 2 r.length := by
      simp only [List.length_cons, List.range'_succ]
    unfold rowF
    rw [this]
    simp only
    unfold nodeF
    rw [if_neg (by show ¬ 400 < ((c :: d :: r).map leafN).length; rw [List.length_map]; omega)]
    show (((c :: d :: r).map leafN).length, _) = _
    rw [List.length_map, ← this]
    rfl
theorem wordN_len (l : List UInt8) : (wordN l).length ≤ l.length + 1 := by
  match l with
  | [] => exact Nat.le_refl 1
  | [c] => exact Nat.le_succ 1
  | c :: d :: r =>
    show ((c :: d :: r).map leafN ++ [_]).length ≤ _
    rw [List.length_append, List.length_map, List.length_singleton]
    exact Nat.le_refl _
theorem word_ref (l : List UInt8) (hl : l.length ≤ 100) : refF (wrdP l) ⟨#[]⟩ = .ok (wordR l, { fsW l with nds := wordN l }) := by
  have he := esc_le l
  have hs := wrd_size l
  have hb : ∀ BRS, bchF (wrdP l) ⟨#[]⟩ BRS false fs0 = (wordR l, { fsW l with nds := wordN l }) := fun BRS => by
    unfold bchF
    rw [word_bch l hl]
    exact word_row l hl
  have hbs : ∀ BRS, bssF (wrdP l) ⟨#[]⟩ BRS false fs0 = (wordR l, { fsW l with nds := wordN l }) := fun BRS => by
    unfold bssF
    rw [hb BRS]
    simp only
    rw [bssL, if_neg (by rintro ⟨_, q⟩; rw [hs] at q; exact absurd q (Nat.lt_irrefl _))]
    rfl
  unfold refF
  rw [if_neg (by rw [hs]; show ¬ (300 < _ ∨ 1000 < 0); omega)]
  simp only
  rw [hbs, if_neg (by show ¬ (0 ≠ 0); simp), if_neg ?_]
  show ¬ 400 < (wordN l).length
  have := wordN_len l
  omega
section
variable {l : List UInt8}
/-- The nodes of a text of two bytes and more, as they are compiled. -/
def nodW (l : List UInt8) : List Nq := (l.map leafN ++ [({ op := 5, kids := List.range' 0 l.length } : Nd)]).map Nd.q
theorem nodW_len (l : List UInt8) : (nodW l).length = l.length + 1 := by simp [nodW]
theorem nodW_leaf {k : Nat} (hk : k < l.length) : nodeAt (nodW l) (k : Int) = { op := 2, c := (l.getD k 0).toNat } := by
  unfold nodeAt nodW
  rw [Int.toNat_natCast, List.getElem?_map, List.getElem?_append_left (by simpa using hk), List.getElem?_map, List.getElem?_eq_getElem hk]
  simp [hk]
  rfl
theorem nodW_top : nodeAt (nodW l) (l.length : Int) = { op := 5, kids := (List.range' 0 l.length).map fun (k : Nat) => (k : Int) } := by
  unfold nodeAt nodW
  rw [Int.toNat_natCast, List.getElem?_map, List.getElem?_append_right (by simp)]
  simp
  rfl
theorem has_W {k : Nat} (hk : k ≤ l.length) : hasB (nodW l) (k : Int) = true := by
  unfold hasB
  rw [nodW_len]
  exact decide_eq_true ⟨by omega, by omega⟩
theorem wlk_leaf {f k : Nat} (hk : k < l.length) (sn : List Bool) (hs : sn.getD k true = false) : wlk2 (nodW l) 0 (f + 1) (k : Int) sn = (true, sn.set k true) := by
  rw [wlk2, has_W (Nat.le_of_lt hk), nodW_leaf hk, Int.toNat_natCast, hs]
  rfl
theorem gol_leaves {f : Nat} : ∀ (ks : List Nat) (sn : List Bool), ks.Nodup → (∀ k ∈ ks, k < l.length ∧ sn.getD k true = false) → (gol (wlk2 (nodW l) 0 (f + 1)) (ks.map fun (k : Nat) => (k : Int)) sn).1 = true
  | [], sn, _, _ => rfl
  | k :: ks, sn, hn, h => by
    obtain ⟨h1, h2⟩ := h k (by simp)
    rw [List.map_cons, gol, wlk_leaf h1 sn h2]
    show (gol _ _ (sn.set k true)).1 = true
    refine gol_leaves ks _ (List.nodup_cons.1 hn).2 fun j hj => ?_
    obtain ⟨h3, h4⟩ := h j (List.mem_cons_of_mem _ hj)
    refine ⟨h3, ?_⟩
    have : k ≠ j := fun e => (List.nodup_cons.1 hn).1 (e ▸ hj)
    rw [List.getD_eq_getElem?_getD, List.getElem?_set_ne this, ← List.getD_eq_getElem?_getD]
    exact h4
theorem snd_W (h2 : 2 ≤ l.length) : sndR2 (nodW l) (l.length : Int) 0 = true := by
  have hrep : ∀ (n k : Nat), k < n → (List.replicate n false).getD k true = false := fun n k hk => by
    rw [List.getD_eq_getElem?_getD, List.getElem?_replicate, if_pos hk]; rfl
  have hg := gol_leaves (l := l) (f := l.length) (List.range' 0 l.length) ((List.replicate (nodW l).length false).set l.length true) (List.nodup_range' (step := 1)) fun k hk => by
    have hk' : k < l.length := by rw [List.mem_range'_1] at hk; omega
    refine ⟨hk', ?_⟩
    rw [List.getD_eq_getElem?_getD, List.getElem?_set_ne (by omega), ← List.getD_eq_getElem?_getD]
    exact hrep _ _ (by rw [nodW_len]; omega)
  unfold sndR2
  rw [show (nodW l).length + 1 = (l.length + 1) + 1 by rw [nodW_len], wlk2, has_W (Nat.le_refl _), nodW_top, Int.toNat_natCast, hrep _ _ (by rw [nodW_len]; omega)]
  rw [if_neg (by simp), if_neg (by unfold kidsR numbR timR; simp; exact h2)]
  simp only
  rw [if_neg (by rw [hg]; simp)]
  rfl
theorem lay_sh {c : List Ins} (r : Nat) (hx : c.length ≤ 2000) (d : Ins) : layE d ⟨c, r, false⟩ = (c.length, ⟨c ++ [d], r, false⟩) := by
  unfold layE; rw [if_neg (by show ¬ 2000 < c.length; omega)]
theorem cat_W {f : Nat} : ∀ (ks : List Nat) (c : List Ins), (∀ k ∈ ks, k < l.length) → c.length + ks.length ≤ 2000 → catE (nodeE (nodW l) (f + 1)) (ks.map fun (k : Nat) => (k : Int)) ⟨c, 0, false⟩ = ⟨c ++ ks.map (fun k => wordI (l.getD k 0)), 0, false⟩
  | [], c, _, _ => by simp [catE]
  | k :: ks, c, h, hl => by
    rw [List.length_cons] at hl
    have hk := h k (by simp)
    have e : nodeE (nodW l) (f + 1) (k : Int) ⟨c, 0, false⟩ = ⟨c ++ [wordI (l.getD k 0)], 0, false⟩ := by
      rw [nodeE, if_neg (by show ¬ (false = true); decide), nodW_leaf hk]
      show (layE (wordI (l.getD k 0)) ⟨c, 0, false⟩).2 = _
      rw [lay_sh 0 (by omega)]
    rw [List.map_cons, catE, e, cat_W ks _ (fun j hj => h j (List.mem_cons_of_mem _ hj)) (by rw [List.length_append, List.length_singleton]; omega)]
    simp
theorem range_word (l : List UInt8) : (List.range' 0 l.length).map (fun k => wordI (l.getD k 0)) = l.map wordI := by
  apply List.ext_getElem
  · simp
  · intro i h1 h2
    simp at h1 h2
    simp [h1]
theorem cmp_W (h2 : 2 ≤ l.length) (hl : l.length ≤ 100) (fo : Bool) : cmpE2 (nodW l) (l.length : Int) 0 0 fo = (0, wordC l, 0, fo) := by
  have e : nodeE (nodW l) ((nodW l).length + 1) (l.length : Int) ⟨[], 0, false⟩ = ⟨l.map wordI, 0, false⟩ := by
    rw [nodW_len, nodeE, if_neg (by decide), nodW_top]
    show catE (nodeE (nodW l) (l.length + 1)) ((List.range' 0 l.length).map fun (k : Nat) => (k : Int)) ⟨[], 0, false⟩ = _
    rw [cat_W _ _ (fun k hk => by rw [List.mem_range'_1] at hk; omega) (by simp; omega), range_word]
    rfl
  unfold cmpE2
  rw [snd_W h2, if_neg (by simp), e, lay_sh 0 (by simp; omega)]
  rw [if_neg (by
    rintro (q | q)
    · cases q
    · have : 2000 < (l.map wordI ++ [({ op := 14 } : Ins)]).length := q
      rw [List.length_append, List.length_map, List.length_singleton] at this; omega)]
  rfl
end
theorem word_cpd (l : List UInt8) (hl : l.length ≤ 100) (fo : Bool) : cpdE (wrdP l) fo = (wordC l, 0, fo) := by
  rw [cpd_eq]
  unfold cpdE2
  rw [word_ref l hl]
  show (cmpE2 ((wordN l).map Nd.q) (wordR l) 0 0 fo).2 = _
  match l with
  | [] => cases fo <;> rfl
  | [c] => cases fo <;> rfl
  | c :: d :: r =>
    have := cmp_W (l := c :: d :: r) (by simp) hl fo
    show (cmpE2 (nodW (c :: d :: r)) ((c :: d :: r).length : Int) 0 0 fo).2 = _
    rw [this]
end Go.Proofs.YtalmajiflmejcaaGreat
/- A text as a pattern that is itself, plain: the machine. -/
namespace Go.Proofs.YtalmajiflmejcaaGreat
open Go.ChangeShapes Go.WideShapes Go.ChangeAt Go.RowKit
set_option linter.unusedVariables false
set_option linter.unusedSimpArgs false
section
variable {s : ByteArray} {fo : Bool} {l : List UInt8}
theorem wc_len : (wordC l).length = l.length + 1 := by simp [wordC]
theorem wi_at {i : Nat} (hi : i < l.length) : insAt (wordC l) i = wordI (l.getD i 0) := by
  unfold insAt wordC
  rw [List.getD_eq_getElem?_getD, List.getElem?_append_left (by simpa using hi)]
  simp [hi]
theorem wi_end : insAt (wordC l) l.length = { op := 14 } := by
  unfold insAt wordC
  rw [List.getD_eq_getElem?_getD, List.getElem?_append_right (by simp)]
  simp
/-- Does the byte i of the text stand at its place? -/
def wB (s : ByteArray) (fo : Bool) (l : List UInt8) (k i : Nat) : Bool := decide (k + i < s.size) && smeB fo (byt s (k + i)) (l.getD i 0).toNat
/-- Does the text stand at a place? -/
def wOk (s : ByteArray) (fo : Bool) (l : List UInt8) (k : Nat) : Bool := (List.range l.length).all fun i => wB s fo l k i
theorem wOk_iff {k : Nat} : wOk s fo l k = true ↔ ∀ i, i < l.length → wB s fo l k i = true := by
  unfold wOk
  rw [List.all_eq_true]
  exact ⟨fun h i hi => h i (List.mem_range.2 hi), fun h i hi => h i (List.mem_range.1 hi)⟩
theorem fit_w {k i : Nat} (hk : k + i ≤ s.size) : fitB s fo (wordI (l.getD i 0)) (k + i) = wB s fo l k i := by
  unfold fitB wB
  by_cases e : k + i = s.size
  · rw [if_pos e, decide_eq_false (by omega)]; rfl
  · rw [if_neg e, if_pos (by rfl), decide_eq_true (by omega)]; rfl
/-- A machine on its way through a text. -/
def mcW (u : List Int) (k i n : Nat) : Mc := ⟨u, [], ⟨(tyE k).ss, i, k + i, 0⟩, [], n⟩
theorem step_w {u : List Int} {k i st : Nat} (hi : i < l.length) (hk : k + i ≤ s.size) (h : wB s fo l k i = true) : goE (wordC l) s fo (st + 1) (mcW u k i (st + 1)) = goE (wordC l) s fo st (mcW u k (i + 1) st) := by
  have hf := fit_w (fo := fo) (l := l) hk
  have e : doE (wordC l).length s fo (wordI (l.getD i 0)) ((mcW u k i (st + 1)).steps st) = (true, mcW u k (i + 1) st) := by
    unfold doE
    rw [if_neg (by show ¬ (1 = 4); decide), if_neg (by show ¬ (1 = 5); decide), if_pos (by rw [wc_len]; show i + 1 < _; omega)]
    show byteE s fo (wordI (l.getD i 0)) _ = _
    unfold byteE
    show (if fitB s fo (wordI (l.getD i 0)) (k + i) = true then _ else _) = _
    rw [hf, if_pos h]
    rfl
  rw [goE]
  show (if (insAt (wordC l) i).op = 14 then _ else if (doE (wordC l).length s fo (insAt (wordC l) i) ((mcW u k i (st + 1)).steps st)).1 = true then goE (wordC l) s fo st (doE (wordC l).length s fo (insAt (wordC l) i) ((mcW u k i (st + 1)).steps st)).2 else _) = _
  rw [wi_at hi, if_neg (by show ¬ (1 = 14); decide), e]
  rfl
theorem stop_w {u : List Int} {k i st : Nat} (hi : i < l.length) (hk : k + i ≤ s.size) (h : wB s fo l k i = false) : goE (wordC l) s fo (st + 1) (mcW u k i (st + 1)) = (0, ⟨u, [], ⟨(tyE k).ss, i + 1, k + i, 0⟩, [], st⟩) := by
  have hf := fit_w (fo := fo) (l := l) hk
  have e : doE (wordC l).length s fo (wordI (l.getD i 0)) ((mcW u k i (st + 1)).steps st) = (false, ⟨u, [], ⟨(tyE k).ss, i + 1, k + i, 0⟩, [], st⟩) := by
    unfold doE
    rw [if_neg (by show ¬ (1 = 4); decide), if_neg (by show ¬ (1 = 5); decide), if_pos (by rw [wc_len]; show i + 1 < _; omega)]
    show byteE s fo (wordI (l.getD i 0)) _ = _
    unfold byteE
    show (if fitB s fo (wordI (l.getD i 0)) (k + i) = true then _ else _) = _
    rw [hf, h]
    rfl
  rw [goE]
  show (if (insAt (wordC l) i).op = 14 then _ else if (doE (wordC l).length s fo (insAt (wordC l) i) ((mcW u k i (st + 1)).steps st)).1 = true then _ else (0, (doE (wordC l).length s fo (insAt (wordC l) i) ((mcW u k i (st + 1)).steps st)).2)) = _
  rw [wi_at hi, if_neg (by show ¬ (1 = 14); decide), e]
  rfl
theorem end_w {u : List Int} {k st : Nat} : goE (wordC l) s fo (st + 1) (mcW u k l.length (st + 1)) = (1, mcW u k l.length st) := by
  rw [goE]
  show (if (insAt (wordC l) l.length).op = 14 then _ else _) = _
  rw [wi_end]
  rfl
theorem run_w {u : List Int} {k : Nat} (hk : k ≤ s.size) : ∀ (d i st : Nat), i + d = l.length → k + i ≤ s.size → d + 1 ≤ st →
    ((∀ j, i ≤ j → j < l.length → wB s fo l k j = true) → goE (wordC l) s fo st (mcW u k i st) = (1, mcW u k l.length (st - d - 1))) ∧
    (¬ (∀ j, i ≤ j → j < l.length → wB s fo l k j = true) → ∃ t n, goE (wordC l) s fo st (mcW u k i st) = (0, ⟨u, [], t, [], n⟩) ∧ st ≤ n + d) := by
  intro d
  induction d with
  | zero =>
    intro i st hi _ hst
    obtain ⟨st, rfl⟩ : ∃ q, st = q + 1 := ⟨st - 1, by omega⟩
    obtain rfl : i = l.length := by omega
    exact ⟨fun _ => end_w, fun h => absurd (fun j h1 h2 => absurd h2 (by omega)) h⟩
  | succ d ih =>
    intro i st hi hki hst
    obtain ⟨st, rfl⟩ : ∃ q, st = q + 1 := ⟨st - 1, by omega⟩
    cases hw : wB s fo l k i with
    | true =>
      have hlt : k + i < s.size := by
        unfold wB at hw
        rw [Bool.and_eq_true, decide_eq_true_eq] at hw
        exact hw.1
      rw [step_w (by omega) hki hw]
      obtain ⟨a, b⟩ := ih (i + 1) st (by omega) (by omega) (by omega)
      refine ⟨fun h => ?_, fun h => ?_⟩
      · rw [a fun j h1 h2 => h j (by omega) h2]
        rw [show st + 1 - (d + 1) - 1 = st - d - 1 by omega]
      · obtain ⟨t, n, e, q⟩ := b fun g => h fun j h1 h2 => by
          by_cases z : j = i
          · rw [z]; exact hw
          · exact g j (by omega) h2
        exact ⟨t, n, e, by omega⟩
    | false =>
      refine ⟨fun h => ?_, fun _ => ⟨_, _, stop_w (by omega) hki hw, by omega⟩⟩
      have := h i (Nat.le_refl _) (by omega)
      rw [hw] at this; cases this
theorem at_w {m : Mc} (ha : m.sd = []) {k : Nat} (hk : k ≤ s.size) (hs : l.length + 1 ≤ m.st) :
    (wOk s fo l k = true → ∃ n, atE (wordC l) s fo k m = (1, mcW (undo m) k l.length n)) ∧ (wOk s fo l k = false → ∃ m', atE (wordC l) s fo k m = (0, m') ∧ m'.sd = [] ∧ m.st ≤ m'.st + l.length) := by
  have e : resE { m with sd := m.sd ++ [tyE k] } = some (mcW (undo m) k 0 m.st) := by
    unfold resE
    simp only [ha, List.nil_append, List.getLast?_singleton, Option.map_some, List.dropLast_singleton]
    rw [show (tyE k).ch = 0 from rfl, back_zero]
    rfl
  obtain ⟨a, b⟩ := run_w (s := s) (fo := fo) (l := l) (u := undo m) hk l.length 0 m.st (by omega) (by omega) (by omega)
  unfold atE
  rw [tryE, e]
  simp only
  refine ⟨fun h => ?_, fun h => ?_⟩
  · rw [wOk_iff] at h
    rw [show (mcW (undo m) k 0 m.st).st = m.st from rfl, a fun j _ h2 => h j h2]
    exact ⟨_, rfl⟩
  · have hn : ¬ ∀ j, 0 ≤ j → j < l.length → wB s fo l k j = true := fun g => by
      have := wOk_iff.2 fun j hj => g j (Nat.zero_le _) hj
      rw [h] at this; cases this
    obtain ⟨t, n, q, hq⟩ := b hn
    rw [show (mcW (undo m) k 0 m.st).st = m.st from rfl, q]
    simp only
    rw [if_pos trivial, tryE]
    exact ⟨⟨undo m, [], t, [], n⟩, rfl, rfl, hq⟩
theorem frm_none (f : Nat) : ∀ (k : Nat) (m : Mc), m.sd = [] → f * (l.length + 1) + l.length + 1 ≤ m.st → k + f ≤ s.size + 1 → (∀ j, k ≤ j → j < k + f → wOk s fo l j = false) → (frmE (wordC l) s fo f k m).1 = 0 := by
  induction f with
  | zero => intro k m _ _ _ _; rfl
  | succ f ih =>
    intro k m ha hs hk hc
    obtain ⟨P, hP⟩ : ∃ P, f * (l.length + 1) = P := ⟨_, rfl⟩
    rw [Nat.succ_mul, hP] at hs
    obtain ⟨m', e, h1, h2⟩ := (at_w (s := s) (fo := fo) (l := l) ha (k := k) (by omega) (by omega)).2 (hc k (Nat.le_refl _) (by omega))
    rw [frmE, e]
    exact ih (k + 1) _ h1 (by rw [hP]; show _ ≤ m'.st; omega) (by omega) fun j q1 q2 => hc j (by omega) (by omega)
theorem frm_some (f : Nat) : ∀ (k : Nat) (m : Mc) (K : Nat), m.sd = [] → f * (l.length + 1) + l.length + 1 ≤ m.st → k + f ≤ s.size + 1 → k ≤ K → K < k + f → wOk s fo l K = true → (∀ j, k ≤ j → j < K → wOk s fo l j = false) →
    (frmE (wordC l) s fo f k m).1 = 1 ∧ (frmE (wordC l) s fo f k m).2.1 = K ∧ (frmE (wordC l) s fo f k m).2.2.t = ⟨(tyE K).ss, l.length, K + l.length, 0⟩ := by
  induction f with
  | zero => intro k m K _ _ _ _ hK; omega
  | succ f ih =>
    intro k m K ha hs hk h1 h2 hK hc
    obtain ⟨P, hP⟩ : ∃ P, f * (l.length + 1) = P := ⟨_, rfl⟩
    rw [Nat.succ_mul, hP] at hs
    by_cases e : k = K
    · subst e
      obtain ⟨n, q⟩ := (at_w (s := s) (fo := fo) (l := l) ha (k := k) (by omega) (by omega)).1 hK
      rw [frmE, q]
      exact ⟨rfl, rfl, rfl⟩
    · obtain ⟨m', q, q1, q2⟩ := (at_w (s := s) (fo := fo) (l := l) ha (k := k) (by omega) (by omega)).2 (hc k (Nat.le_refl _) (by omega))
      rw [frmE, q]
      exact ih (k + 1) _ K q1 (by rw [hP]; show _ ≤ m'.st; omega) (by omega) (by omega) (by omega) hK fun j z1 z2 => hc j (by omega) z2
theorem snd_word (hl : l.length ≤ 100) : sndF (wordC l) 0 = true := by
  unfold sndF
  rw [Bool.and_eq_true, Bool.and_eq_true]
  refine ⟨⟨?_, ?_⟩, ?_⟩
  · rw [wc_len]; unfold sizeB; simp; omega
  · rw [List.all_eq_true]
    intro d hd
    unfold wordC at hd
    rw [List.mem_append, List.mem_map, List.mem_singleton] at hd
    rcases hd with ⟨c, _, rfl⟩ | rfl
    · rfl
    · rfl
  · unfold lastB wordC
    simp
/-- From a place on: the first one. -/
theorem fir_word (hl : l.length ≤ 100) {st : Nat} (hst : st ≤ 5000) (h2 : (s.size + 2) * (l.length + 1) ≤ st) :
    (∀ K, K ≤ s.size → wOk s fo l K = true → (∀ j, j < K → wOk s fo l j = false) → (firE (wordC l) 0 s fo 0 s.size st).2.2 = (true, 0) ∧ (firE (wordC l) 0 s fo 0 s.size st).1 = mtE ⟨(tyE K).ss, l.length, K + l.length, 0⟩ K) ∧
    ((∀ j, j ≤ s.size → wOk s fo l j = false) → (firE (wordC l) 0 s fo 0 s.size st).2.2 = (false, 0) ∧ (firE (wordC l) 0 s fo 0 s.size st).1 = List.replicate 22 0) := by
  have e := fir_from (s := s) (fo := fo) (snd_word (l := l) hl) (j := 0) (st := st) (Nat.zero_le _) hst
  rw [show ((0 : Nat) : Int) = 0 from rfl] at e
  rw [e]
  have hs : (s.size + 1 - 0) * (l.length + 1) + l.length + 1 ≤ st := by
    have : (s.size + 2) * (l.length + 1) = (s.size + 1) * (l.length + 1) + (l.length + 1) := by rw [show s.size + 2 = (s.size + 1) + 1 by omega, Nat.add_mul (s.size + 1) 1, Nat.one_mul]
    rw [Nat.sub_zero]
    omega
  refine ⟨fun K h1 h3 h4 => ?_, fun h => ?_⟩
  · obtain ⟨q1, q2, q3⟩ := frm_some (s := s) (fo := fo) (l := l) (s.size + 1 - 0) 0 (newE 0 st) K rfl hs (by omega) (Nat.zero_le _) (by omega) h3 fun j _ q => h4 j q
    unfold ansE
    rw [show ((0 : Int)).toNat = 0 from rfl, if_pos q1, q2, q3]
    exact ⟨rfl, rfl⟩
  · have q1 := frm_none (s := s) (fo := fo) (l := l) (s.size + 1 - 0) 0 (newE 0 st) rfl hs (by omega) fun j _ q => h j (by omega)
    unfold ansE
    rw [show ((0 : Int)).toNat = 0 from rfl, q1]
    exact ⟨rfl, rfl⟩
theorem mt_word (K n : Nat) (nx : Nat) : (mtE ⟨(tyE K).ss, nx, K + n, 0⟩ K).getD 0 0 = (K : Int) ∧ (mtE ⟨(tyE K).ss, nx, K + n, 0⟩ K).getD 1 0 = ((K + n : Nat) : Int) := by
  refine ⟨rfl, ?_⟩
  show max (K : Int) ((K + n : Nat) : Int) = _
  omega
end
end Go.Proofs.YtalmajiflmejcaaGreat
