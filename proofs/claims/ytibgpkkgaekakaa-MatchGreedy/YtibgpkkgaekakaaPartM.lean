import Derived.Test.YtibgpkkgaekakaaPartL
import Derived.Test.YtibgpkkgaekakaaPartI
import Derived.DeepKeys
namespace Go.Proofs.Ytibgpkkgaekakaa
open Go.ChangeShapes Go.WideShapes Go.ChangeAt Go.RowKit
set_option linter.unusedVariables false
set_option linter.unusedSimpArgs false
theorem sndF_fit {C : List Ins} {r : Int} (h : sndF C r = true) : 0 < C.length ∧ C.length ≤ 2000 ∧ 0 ≤ r ∧ r ≤ 2000 ∧ Fit C r.toNat := by
  unfold sndF sizeB at h
  simp only [Bool.and_eq_true, decide_eq_true_eq] at h
  obtain ⟨⟨⟨⟨⟨h1, h2⟩, h3⟩, h4⟩, h5⟩, h6⟩ := h
  refine ⟨h1, h2, h3, h4, fun d hd => ?_⟩
  have := List.all_eq_true.1 h5 d hd
  rw [Int.toNat_of_nonneg h3]
  exact this
theorem at_cases {C : List Ins} {s : ByteArray} {fo : Bool} (k : Nat) (m : Mc) : (atE C s fo k m).1 ≤ 2 := by
  have : ∀ (f : Nat) (m : Mc), (tryE C s fo f m).1 ≤ 2 := by
    intro f
    induction f with
    | zero => intro m; exact Nat.zero_le _
    | succ f ih =>
      intro m
      rw [tryE]
      split
      · exact Nat.zero_le _
      · split
        · exact ih _
        · exact go_cases _ _
  exact this _ _
theorem mc_tryAt {t : Ty} {s : ByteArray} {fo : Bool} {bv wv cv av : Value} {st j : Nat} {v : Value} (hj : (tcells t)[j]? = some v) : (mcells s fo bv wv t cv av st)[4 + j]? = some v := by
  unfold mcells
  rw [show 4 + j = j + 1 + 1 + 1 + 1 by omega]
  simp only [List.getElem?_cons_succ]
  rw [List.getElem?_append_left (List.getElem?_eq_some_iff.1 hj).1]
  exact hj
theorem yields_built {ops : Array Oper} {S : World → Prop} {op : Oper} {a : Act} {t : TypeId} {cells : Array Value} (hw : Region.wanted op (yielded ops a.tmps) = true) (hb : Try.prog.built t [] = some cells) (ho : op.op = .build t #[]) : YieldsIf Try.prog ops S op (.agg cells) a :=
  .inl ⟨hw, fun w _ => by
    unfold execOp
    simp only [ho, Sem.run_bind]
    rw [run_build w t _ cells (by simpa using hb)]
    rfl⟩
def Fi (w0 : World) (mb : Nat) (s : ByteArray) (fo : Bool) (cv : Value) (C : List Ins) (N R M : Nat) (tp k : Nat) (G : Nat × Nat × Mc) (w : World) : Prop :=
  ∃ m bv wv av, Mw w0 mb s fo cv m bv wv av w ∧ Okm N s.size R M m ∧ m.sd = [] ∧ frmE C s fo (tp + 1 - k) k m = G
section
variable {w : World} {ca : Option Addr} {N cc : Nat} {C : List Ins}
set_option maxHeartbeats 8000000 in
set_option maxRecDepth 100000 in
theorem first_ok (hC : Cd w (.slice ca N cc) C) (hok : ∀ d ∈ C, d.set.ok) (fo : Bool) {R : Nat} (hS : sndF C R = true) (s : ByteArray) (hz : s.size ≤ 1000000) {a b st : Nat} (ha : a ≤ s.size) (hb : b ≤ s.size) (hst : st ≤ 5000) :
    Calls Try.prog 17 #[.agg #[.slice ca N cc, .int .i64 R, .bool fo], .string s, .int .i64 a, .int .i64 b, .int .i64 st] w fun e w' => e = .returned (ansV (ansE C R s fo (b + 1 - a) a st)) ∧ Kp w w' := by
  obtain ⟨dM, hM1, hM2⟩ := rowMatch
  obtain ⟨dT, hT1, hT2⟩ := rowTry
  have HT : Hid (Try.prog.underlying 25 = some dM ∧ dM.isRow = true ∧ Try.prog.underlying 71 = some dT ∧ dT.isRow = true) := ⟨hM1, hM2, hT1, hT2⟩
  clear hM1 hM2 hT1 hT2
  obtain ⟨ZL, hZL⟩ : ∃ L, z22 = L := ⟨_, rfl⟩
  have HZ : Hid (Try.prog.built 25 [] = some ZL.toArray ∧ ZL.length = 22 ∧ (∀ v ∈ ZL, v.oneCell' = true) ∧ ZL = slv (List.replicate 22 0)) := by rw [← hZL]; exact ⟨built_z, z22_len, z22_one, z22_eq⟩
  obtain ⟨p, hp⟩ : ∃ b, w.heap.size = b := ⟨_, rfl⟩
  have HP : Hid (w.heap.size = p) := hp
  obtain ⟨W1, hW1⟩ : ∃ W, (w.alloc (.cells #[.slice ca N cc, .int .i64 R, .bool fo] 32)).alloc (.cells #[.int .i64 0, .int .i64 0, .int .i64 0, .int .i64 0, .int .i64 0, .int .i64 0, .int .i64 0, .int .i64 0, .int .i64 0, .int .i64 0, .int .i64 0, .int .i64 0, .int .i64 0, .int .i64 0, .int .i64 0, .int .i64 0, .int .i64 0, .int .i64 0, .int .i64 0, .int .i64 0, .int .i64 0, .int .i64 0] 25) = W := ⟨_, rfl⟩
  have H1 : Hid (Kp w W1 ∧ Lc 32 p [.slice ca N cc, .int .i64 R, .bool fo] W1 ∧ Lc 25 (p + 1) ZL W1) := by
    rw [← hW1, ← hp, ← hZL]
    have e2 := Lc.new (w.alloc (.cells #[.slice ca N cc, .int .i64 R, .bool fo] 32)) z22 25
    rw [alloc_size] at e2
    exact ⟨kp_trans (kp_alloc _ _) (kp_alloc _ _), (Lc.new w [.slice ca N cc, .int .i64 R, .bool fo] 32).kp (kp_alloc _ _), e2⟩
  have HA : Hid (decide (0 ≤ (st : Int) ∧ (st : Int) ≤ 5000) = true) := decide_eq_true (by omega)
  have HB : Hid (decide (0 ≤ (a : Int) ∧ (a : Int) ≤ (s.size : Int)) = true) := decide_eq_true (by omega)
  have HSD : Hid (Calls Try.prog 24 #[.agg #[.slice ca N cc, .int .i64 R, .bool fo]] W1 fun e w' => e = .returned (.bool true) ∧ Kp W1 w') := by have := gsound_any fo R (hC.kp H1.out.1); rw [hS] at this; exact this
  obtain ⟨G, hG⟩ : ∃ G, frmE C s fo (b + 1 - a) a (newE R st) = G := ⟨_, rfl⟩
  obtain ⟨X, hX⟩ : ∃ X, ansE C R s fo (b + 1 - a) a st = X := ⟨_, rfl⟩
  rw [hX]
  have HX : Hid (X = if G.1 = 1 then (mtE G.2.2.t G.2.1, G.2.2.st, true, 0) else if G.1 = 2 then (List.replicate 22 0, 0, false, 50) else (List.replicate 22 0, G.2.2.st, false, 0)) := by show _ = _; rw [← hX]; unfold ansE; rw [hG]
  obtain ⟨f1, f2, f3, f4, f5⟩ := sndF_fit hS
  rw [Int.toNat_natCast] at f5
  have hlen : C.length = N := hC.len.1.symm
  have HK : Hid (∀ z, Kp w z → Kn z ca N cc C s R 5000) := fun z hz' => ⟨hC.kp hz', hlen, f5, hok, by omega, by omega, hz, by omega, by omega⟩
  have HNP : Hid (0 < N ∧ C.length = N ∧ b ≤ s.size ∧ a ≤ s.size ∧ st ≤ 5000 ∧ R ≤ 2000 ∧ Fit C R) := ⟨by omega, hlen, hb, ha, hst, by omega, f5⟩
  have HG : Hid (frmE C s fo (b + 1 - a) a (newE R st) = G) := hG
  have hR2 : R ≤ 2000 := by omega
  have ha6 : a ≤ 1000000 := by omega
  have hb6 : b ≤ 1000000 := by omega
  clear hX hG hC hok hS hZL f1 f2 f3 f4 f5 hlen hz ha hb
  go_enter Try.func17, Try.ntmps17
  go_upto_region 1 with fail
  try rw [hW1]
  try rw [hp]
  clear hW1 hp
  have c0 : W1.cell? ⟨p, 0, none⟩ = some (.slice ca N cc) := H1.out.2.1.at rfl
  have c1 : W1.cell? ⟨p, 1, none⟩ = some (.int .i64 R) := H1.out.2.1.at rfl
  have c2 : W1.cell? ⟨p, 2, none⟩ = some (.bool fo) := H1.out.2.1.at rfl
  go_upto_region 3 with (first | (go_at_call 23; refine Calls.mono (within_any _ _ _) ?_; rintro e x1 ⟨rfl, q⟩; rw [q]; clear q; first | rw [HA.out] | rw [HB.out]) | (go_at_call 24; refine Calls.mono HSD.out ?_; rintro e W2 ⟨rfl, q⟩; have H2 : Hid (Kp w W2 ∧ Lc 32 p [.slice ca N cc, .int .i64 R, .bool fo] W2 ∧ Lc 25 (p + 1) ZL W2) := ⟨kp_trans H1.out.1 q, H1.out.2.1.kp q, H1.out.2.2.kp q⟩; clear q))
  clear c0 c1 c2
  have c0 : W2.cell? ⟨p, 0, none⟩ = some (.slice ca N cc) := H2.out.2.1.at rfl
  have c1 : W2.cell? ⟨p, 1, none⟩ = some (.int .i64 R) := H2.out.2.1.at rfl
  have c2 : W2.cell? ⟨p, 2, none⟩ = some (.bool fo) := H2.out.2.1.at rfl
  have HNM : Hid (Calls Try.prog 25 #[.agg #[.slice ca N cc, .int .i64 R, .bool fo], .string s, .int .i64 st] W2 fun e w' => ∃ mb, e = .returned (.pointer (some ⟨mb, 0, none⟩)) ∧ Mx W2 mb s fo (.slice ca N cc) (newE R st) w') := newMachine_m (by omega) fo s st W2
  go_upto_region 4 with (go_at_call 25; refine Calls.mono HNM.out ?_; rintro e W3 ⟨mb, rfl, ⟨bv3, wv3, av3, q⟩⟩; have H3 : Hid (Mw W2 mb s fo (.slice ca N cc) (newE R st) bv3 wv3 av3 W3) := q; clear q)
  clear c0 c1 c2
  have H0 : Hid (Fi W2 mb s fo (.slice ca N cc) C N R 5000 b a G W3) := ⟨_, _, _, _, H3.out, new_ok HNP.out.2.2.2.2.1, rfl, HG.out⟩
  go_wp2_with fail
  go_loopw [15] (fun v15 wr => ∃ k : Nat, a ≤ k ∧ k ≤ 1000001 ∧ v15 = .int .i64 k ∧ Hid (Fi W2 mb s fo (.slice ca N cc) C N R 5000 b k G wr)) (fun v15 _ => b + 1 - (intOf v15).toNat)
  case atStart => exact ⟨a, Nat.le_refl _, by omega, rfl, H0.out⟩
  case round =>
    obtain ⟨k, hka, hk6, rfl, hq⟩ := hrel
    obtain ⟨m, bv, wv, av, h, ho, hsd, hG⟩ := hq.out
    have HS : Hid (m.t.ss.length = 22) := ho.t.len
    clear hq
    by_cases hkb : k ≤ b
    · have dl : decide ((k : Int) ≤ (b : Int)) = true := decide_eq_true (by omega)
      obtain ⟨Q, hQ⟩ : ∃ Q, atE C s fo k m = Q := ⟨_, rfl⟩
      have HTR : Hid (Calls Try.prog 26 #[.pointer (some ⟨mb, 0, none⟩), .int .i64 k] wr fun e w' => e = .returned (.int .u8 Q.1) ∧ Mx W2 mb s fo (.slice ca N cc) Q.2 w') := by
        have := tryAt_m (HK.out W2 H2.out.1) h ho hsd (k := k) (by have := HNP.out; omega)
        rw [hQ] at this
        exact this
      have HQO : Hid (Okm N s.size R 5000 Q.2 ∧ (Q.1 = 0 → Q.2.sd = [])) := by
        have := at_ok (fo := fo) (s := s) (M := 5000) (k := k) HNP.out.2.2.2.2.2.2 (by rw [HNP.out.2.1]; exact ho) (by rw [HNP.out.2.1]; exact HNP.out.1) (by have := HNP.out; omega) hsd
        rw [hQ, HNP.out.2.1] at this
        exact ⟨this.1, this.2.2⟩
      have HGQ : Hid (G = if Q.1 = 0 then frmE C s fo (b - k) (k + 1) Q.2 else (Q.1, k, Q.2)) := by
        show _ = _
        rw [← hG, show b + 1 - k = (b - k) + 1 by omega, frmE, hQ]
      have HQ2 : Hid (Q.1 ≤ 2) := by show _ ≤ _; rw [← hQ]; exact at_cases k m
      clear h ho hsd hG hQ HS
      obtain ⟨qn, qm⟩ := Q
      go_upto_region 8 with (go_at_call 26; refine Calls.mono HTR.out ?_; rintro e w4 ⟨rfl, ⟨bv4, wv4, av4, q⟩⟩; have H4 : Hid (Mw W2 mb s fo (.slice ca N cc) qm bv4 wv4 av4 w4) := q; clear q)
      clear dl
      have hqn : qn = 0 ∨ qn = 1 ∨ qn = 2 := by have := HQ2.out; (try simp only at this); omega
      have H4B : Hid (Lc 25 (p + 1) ZL w4 ∧ Kp w w4) := ⟨H2.out.2.2.kp H4.out.kp, kp_trans H2.out.1 H4.out.kp⟩
      have HS4 : Hid (qm.t.ss.length = 22) := HQO.out.1.t.len
      rcases hqn with rfl | rfl | rfl
      · go_wp2_with fail
        go_roundw
        case rel => exact ⟨k + 1, by omega, by omega, by go_num, ⟨qm, bv4, wv4, av4, H4.out, HQO.out.1, HQO.out.2 (by trivial), by rw [show b + 1 - (k + 1) = b - k by omega]; exact HGQ.out.symm⟩⟩
        case measure => simp only [intOf]; omega
      · have HRX : Hid (X = (mtE qm.t k, qm.st, true, 0)) := by show _ = _; rw [HX.out, HGQ.out]; rfl
        obtain ⟨LE, hLE⟩ : ∃ L, slv (mtE qm.t k) = L := ⟨_, rfl⟩
        have HLE : Hid (LE.length = 22 ∧ (∀ v ∈ LE, v.oneCell' = true) ∧ slv (mtE qm.t k) = LE) := by rw [← hLE]; exact ⟨by rw [slv_len, mt_len], slv_one _, rfl⟩
        have HMM : Hid (∀ z, Calls Try.prog 27 #[.agg (tcells qm.t).toArray, .int .i64 k] z fun e w' => e = .returned (.agg LE.toArray) ∧ Kp z w') := by intro z; have := match_m qm.t HS4.out k z; rw [hLE] at this; exact this
        have HSZ : Hid ((Try.prog.info? 71).map (·.size) = some (tcells qm.t).length) := by show _ = _; rw [tc_len HS4.out]; exact sizeTry
        clear hLE
        go_upto_region 9 with fail
        refine wp_region_noPanic ?_
        refine wp_region_held_drew (S := fun z => Lc 74 mb (mcells s fo bv4 wv4 qm.t (.slice ca N cc) av4 qm.st) z) (by kernel_rfl) (H4.out.st.kp (kp_drew _)) (fun hHeld => ?_)
        refine takeAt 0 (some 47) ?_ rfl rfl (by kernel_rfl) (by kernel_rfl) (by kernel_rfl) (fun _ _ _ h => h) (Or.inl ⟨by rfl, ?_⟩) hHeld ?_
        rotate_left
        · intro w hSw
          go_simp <;> with_reducible rfl
        try simp only [Act.put, List.setIfInBounds_toArray, List.set_cons_zero, List.set_cons_succ]
        refine takeAt 1 (some 48) ?_ rfl rfl (by kernel_rfl) (by kernel_rfl) (by kernel_rfl) (fun _ _ _ h => h) (Or.inl ⟨by rfl, ?_⟩) hHeld ?_
        rotate_left
        · intro w hSw
          go_simp <;> with_reducible rfl
        try simp only [Act.put, List.setIfInBounds_toArray, List.set_cons_zero, List.set_cons_succ]
        refine takeAt 2 (some 49) ?_ rfl rfl (by kernel_rfl) (by kernel_rfl) (by kernel_rfl) (fun _ _ _ h => h) (Or.inl ⟨by rfl, ?_⟩) hHeld ?_
        rotate_left
        · intro w hSw
          go_simp <;> with_reducible rfl
        try simp only [Act.put, List.setIfInBounds_toArray, List.set_cons_zero, List.set_cons_succ]
        refine takeAt 3 (some 50) (.agg (tcells qm.t).toArray) rfl rfl (by kernel_rfl) (by kernel_rfl) (by kernel_rfl) (fun _ _ _ h => h) (yieldsIf_load_mid (by rfl) 71 (.tmp 49) rfl mb 4 rfl (tcells qm.t) dT (fun z hz => hz.range 4 fun j v hj => mc_tryAt hj) HT.out.2.2.1 HT.out.2.2.2 HSZ.out) hHeld ?_
        try simp only [Act.put, List.setIfInBounds_toArray, List.set_cons_zero, List.set_cons_succ]
        refine takeAt 4 (some 51) ?_ rfl rfl (by kernel_rfl) (by kernel_rfl) (by kernel_rfl) (fun _ _ _ h => h) (Or.inl ⟨by rfl, ?_⟩) hHeld ?_
        rotate_left
        · intro w hSw
          go_simp <;> with_reducible rfl
        try simp only [Act.put, List.setIfInBounds_toArray, List.set_cons_zero, List.set_cons_succ]
        refine takeAt 6 (some 53) ?_ rfl rfl (by kernel_rfl) (by kernel_rfl) (by kernel_rfl) (fun _ _ _ h => h) (Or.inl ⟨by rfl, ?_⟩) hHeld ?_
        rotate_left
        · intro w hSw
          go_simp <;> with_reducible rfl
        try simp only [Act.put, List.setIfInBounds_toArray, List.set_cons_zero, List.set_cons_succ]
        refine takeAt 7 (some 54) ?_ rfl rfl (by kernel_rfl) (by kernel_rfl) (by kernel_rfl) (fun _ _ _ h => h) (Or.inl ⟨by rfl, ?_⟩) hHeld ?_
        rotate_left
        · intro w hSw
          go_simp <;> with_reducible rfl
        try simp only [Act.put, List.setIfInBounds_toArray, List.set_cons_zero, List.set_cons_succ]
        refine takeAt 8 (some 55) ?_ rfl rfl (by kernel_rfl) (by kernel_rfl) (by kernel_rfl) (fun _ _ _ h => h) (Or.inl ⟨by rfl, ?_⟩) hHeld ?_
        rotate_left
        · intro w hSw
          go_simp <;> with_reducible rfl
        try simp only [Act.put, List.setIfInBounds_toArray, List.set_cons_zero, List.set_cons_succ]
        refine takeAt 9 (some 56) (.int .i64 qm.st) rfl rfl (by kernel_rfl) (by kernel_rfl) (by kernel_rfl) (fun _ _ _ h => h) (Or.inl ⟨by rfl, ?_⟩) hHeld ?_
        · intro w hSw
          have y0 : w.cell? ⟨mb, 31, none⟩ = some (.int .i64 qm.st) := hSw.at (mc_tail HS4.out 5)
          go_simp <;> with_reducible rfl
        try simp only [Act.put, List.setIfInBounds_toArray, List.set_cons_zero, List.set_cons_succ]
        refine callAt 5 52 27 (vals := #[.agg (tcells qm.t).toArray, .int .i64 k]) (by kernel_rfl) rfl rfl rfl rfl (by simp [Act.eval]) Try.func27 (by kernel_rfl) (by kernel_rfl) ?_
        refine Calls.mono (HMM.out _) ?_
        rintro e w5 ⟨rfl, q⟩
        have H5 : Hid (Kp w w5 ∧ Lc 25 (p + 1) ZL w5 ∧ Lc 74 mb (mcells s fo bv4 wv4 qm.t (.slice ca N cc) av4 qm.st) w5) := ⟨kp_trans (kp_trans H4B.out.2 (kp_drew _)) q, H4B.out.1.kp (kp_trans (kp_drew _) q), H4.out.st.kp (kp_trans (kp_drew _) q)⟩
        clear q
        refine ⟨_, rfl, H5.out.2.2, fun hHeld => ?_⟩
        try simp only [Act.put, List.setIfInBounds_toArray, List.set_cons_zero, List.set_cons_succ]
        refine wpAnyH_ready (rs := [10]) (by kernel_rfl) (by simp) ?_
        refine AllReadyH.cons rfl (fun K hK => ?_) AllReadyH.nil
        rw [if_pos (by rfl)]
        refine wp_store_box H5.out.2.1 0 LE 25 (.tmp 10) (.tmp 52) rfl rfl rfl (by rw [Nat.zero_add, HLE.out.1, HZ.out.2.1]; exact Nat.le_refl _) (by rw [HLE.out.1]; exact sizeMatch) HLE.out.2.1 (sets_full _ _ (by rw [HLE.out.1, HZ.out.2.1])) ?_
        intro W7 q1 q2 q3
        have H7 : Hid (Lc 25 (p + 1) LE W7 ∧ Kp w W7 ∧ Lc 74 mb (mcells s fo bv4 wv4 qm.t (.slice ca N cc) av4 qm.st) W7) := ⟨q1, H5.out.1.trans (q2.below H5.out.1.size fun j hj q => by unfold On at q; have := HP.out; omega), H5.out.2.2.fr q2 (fun q => lc_ne H5.out.2.2 H5.out.2.1 (by decide) q)⟩
        clear q1 q2 q3
        refine hK.out _ _ H7.out.2.2 (fun hHeld => ?_)
        clear hK K
        try simp only [Act.put, List.setIfInBounds_toArray, List.set_cons_zero, List.set_cons_succ]
        refine takeAt 11 (some 11) ?_ rfl rfl (by kernel_rfl) (by kernel_rfl) (by kernel_rfl) (fun _ _ _ h => h) (Or.inl ⟨by rfl, ?_⟩) hHeld ?_
        rotate_left
        · intro w hSw
          go_simp <;> with_reducible rfl
        try simp only [Act.put, List.setIfInBounds_toArray, List.set_cons_zero, List.set_cons_succ]
        refine takeAt 12 (some 12) ?_ rfl rfl (by kernel_rfl) (by kernel_rfl) (by kernel_rfl) (fun _ _ _ h => h) (Or.inl ⟨by rfl, ?_⟩) hHeld ?_
        rotate_left
        · intro w hSw
          go_simp <;> with_reducible rfl
        try simp only [Act.put, List.setIfInBounds_toArray, List.set_cons_zero, List.set_cons_succ]
        refine takeAt 13 (some 13) ?_ rfl rfl (by kernel_rfl) (by kernel_rfl) (by kernel_rfl) (fun _ _ _ h => h) (Or.inl ⟨by rfl, ?_⟩) hHeld ?_
        rotate_left
        · intro w hSw
          go_simp <;> with_reducible rfl
        try simp only [Act.put, List.setIfInBounds_toArray, List.set_cons_zero, List.set_cons_succ]
        refine wpAnyH_done (by kernel_rfl) ?_ _
        refine NoPanic.normal ?_
        go_wp2_with fail
        (try simp only [Exit.inBlock, Exit.then])
        refine bodyPost_ret (results_box4 rfl rfl H7.out.1 HT.out.1 HT.out.2.1 (by rw [HLE.out.1]; exact sizeMatch)) rfl ?_
        refine ⟨?_, H7.out.2.1⟩
        rw [HRX.out]
        unfold ansV
        simp only
        rw [HLE.out.2.2]
        rfl
      · have HRX : Hid (X = (List.replicate 22 0, 0, false, 50)) := by show _ = _; rw [HX.out, HGQ.out]; rfl
        go_wp2_with (first | (refine wpList_buildTo rfl 25 _ rfl [] (by simp) ZL.toArray HZ.out.1 ?_) | (refine wpList_store_box H4B.out.1 0 ZL rfl 25 (.tmp 10) (.tmp 59) rfl rfl rfl (by rw [Nat.zero_add]; exact Nat.le_refl _) (by rw [HZ.out.2.1]; exact sizeMatch) HZ.out.2.2.1 (sets_full _ _ rfl) ?_; intro W7 q1 q2 q3; have H7 : Hid (Lc 25 (p + 1) ZL W7 ∧ Kp w W7) := ⟨q1, H4B.out.2.trans (q2.below H4B.out.2.size fun j hj q => by unfold On at q; have := HP.out; omega)⟩; clear q1 q2 q3))
        (try simp only [Exit.inBlock, Exit.then])
        refine bodyPost_ret (results_box4 rfl rfl H7.out.1 HT.out.1 HT.out.2.1 (by rw [HZ.out.2.1]; exact sizeMatch)) rfl ?_
        refine ⟨?_, H7.out.2⟩
        rw [HRX.out]
        unfold ansV
        rw [← HZ.out.2.2.2]
        rfl
    · have dl : decide ((k : Int) ≤ (b : Int)) = false := decide_eq_false (by omega)
      have HGX : Hid (G = (0, k, m)) := by show _ = _; rw [← hG, show b + 1 - k = 0 by omega]; rfl
      have HRX : Hid (X = (List.replicate 22 0, m.st, false, 0)) := by show _ = _; rw [HX.out, HGX.out]; rfl
      have H4 : Hid (Mw W2 mb s fo (.slice ca N cc) m bv wv av wr) := h
      have H4B : Hid (Lc 25 (p + 1) ZL wr ∧ Kp w wr) := ⟨H2.out.2.2.kp h.kp, kp_trans H2.out.1 h.kp⟩
      clear h ho hsd hG
      go_upto_region 12 with fail
      refine wp_region_noPanic ?_
      refine wp_region_held_drew (S := fun z => Lc 74 mb (mcells s fo bv wv m.t (.slice ca N cc) av m.st) z) (by kernel_rfl) (H4.out.st.kp (kp_drew _)) (fun hHeld => ?_)
      refine takeAt 0 (some 60) (.agg ZL.toArray) rfl rfl (by kernel_rfl) (by kernel_rfl) (by kernel_rfl) (fun _ _ _ h => h) (yields_built (by rfl) HZ.out.1 rfl) hHeld ?_
      try simp only [Act.put, List.setIfInBounds_toArray, List.set_cons_zero, List.set_cons_succ]
      refine takeAt 1 (some 61) ?_ rfl rfl (by kernel_rfl) (by kernel_rfl) (by kernel_rfl) (fun _ _ _ h => h) (Or.inl ⟨by rfl, ?_⟩) hHeld ?_
      rotate_left
      · intro w hSw
        go_simp <;> with_reducible rfl
      try simp only [Act.put, List.setIfInBounds_toArray, List.set_cons_zero, List.set_cons_succ]
      refine takeAt 2 (some 62) ?_ rfl rfl (by kernel_rfl) (by kernel_rfl) (by kernel_rfl) (fun _ _ _ h => h) (Or.inl ⟨by rfl, ?_⟩) hHeld ?_
      rotate_left
      · intro w hSw
        go_simp <;> with_reducible rfl
      try simp only [Act.put, List.setIfInBounds_toArray, List.set_cons_zero, List.set_cons_succ]
      refine takeAt 3 (some 63) ?_ rfl rfl (by kernel_rfl) (by kernel_rfl) (by kernel_rfl) (fun _ _ _ h => h) (Or.inl ⟨by rfl, ?_⟩) hHeld ?_
      rotate_left
      · intro w hSw
        go_simp <;> with_reducible rfl
      try simp only [Act.put, List.setIfInBounds_toArray, List.set_cons_zero, List.set_cons_succ]
      refine takeAt 4 (some 64) (.int .i64 m.st) rfl rfl (by kernel_rfl) (by kernel_rfl) (by kernel_rfl) (fun _ _ _ h => h) (Or.inl ⟨by rfl, ?_⟩) hHeld ?_
      · intro w hSw
        have y0 : w.cell? ⟨mb, 31, none⟩ = some (.int .i64 m.st) := hSw.at (mc_tail HS.out 5)
        go_simp <;> with_reducible rfl
      try simp only [Act.put, List.setIfInBounds_toArray, List.set_cons_zero, List.set_cons_succ]
      refine wpAnyH_ready (rs := [5]) (by kernel_rfl) (by simp) ?_
      refine AllReadyH.cons rfl (fun K hK => ?_) AllReadyH.nil
      rw [if_pos (by rfl)]
      refine wp_store_box (H4B.out.1.kp (kp_drew _)) 0 ZL 25 (.tmp 10) (.tmp 60) rfl rfl rfl (by rw [Nat.zero_add]; exact Nat.le_refl _) (by rw [HZ.out.2.1]; exact sizeMatch) HZ.out.2.2.1 (sets_full _ _ rfl) ?_
      intro W7 q1 q2 q3
      have H7 : Hid (Lc 25 (p + 1) ZL W7 ∧ Kp w W7 ∧ Lc 74 mb (mcells s fo bv wv m.t (.slice ca N cc) av m.st) W7) := ⟨q1, (kp_trans H4B.out.2 (kp_drew _)).trans (q2.below (kp_trans H4B.out.2 (kp_drew _)).size fun j hj q => by unfold On at q; have := HP.out; omega), (H4.out.st.kp (kp_drew _)).fr q2 (fun q => lc_ne H4.out.st H4B.out.1 (by decide) q)⟩
      clear q1 q2 q3
      refine hK.out _ _ H7.out.2.2 (fun hHeld => ?_)
      clear hK K
      try simp only [Act.put, List.setIfInBounds_toArray, List.set_cons_zero, List.set_cons_succ]
      refine takeAt 6 (some 11) ?_ rfl rfl (by kernel_rfl) (by kernel_rfl) (by kernel_rfl) (fun _ _ _ h => h) (Or.inl ⟨by rfl, ?_⟩) hHeld ?_
      rotate_left
      · intro w hSw
        go_simp <;> with_reducible rfl
      try simp only [Act.put, List.setIfInBounds_toArray, List.set_cons_zero, List.set_cons_succ]
      refine takeAt 7 (some 12) ?_ rfl rfl (by kernel_rfl) (by kernel_rfl) (by kernel_rfl) (fun _ _ _ h => h) (Or.inl ⟨by rfl, ?_⟩) hHeld ?_
      rotate_left
      · intro w hSw
        go_simp <;> with_reducible rfl
      try simp only [Act.put, List.setIfInBounds_toArray, List.set_cons_zero, List.set_cons_succ]
      refine takeAt 8 (some 13) ?_ rfl rfl (by kernel_rfl) (by kernel_rfl) (by kernel_rfl) (fun _ _ _ h => h) (Or.inl ⟨by rfl, ?_⟩) hHeld ?_
      rotate_left
      · intro w hSw
        go_simp <;> with_reducible rfl
      try simp only [Act.put, List.setIfInBounds_toArray, List.set_cons_zero, List.set_cons_succ]
      refine wpAnyH_done (by kernel_rfl) ?_ _
      refine NoPanic.normal ?_
      go_wp2_with fail
      (try simp only [Exit.inBlock, Exit.then])
      refine bodyPost_ret (results_box4 rfl rfl H7.out.1 HT.out.1 HT.out.2.1 (by rw [HZ.out.2.1]; exact sizeMatch)) rfl ?_
      refine ⟨?_, H7.out.2.1⟩
      rw [HRX.out]
      unfold ansV
      rw [← HZ.out.2.2.2]
      rfl
end
end Go.Proofs.Ytibgpkkgaekakaa
namespace Go.Proofs.Ytibgpkkgaekakaa
open Go.ChangeShapes Go.WideShapes Go.ChangeAt Go.RowKit
set_option linter.unusedVariables false
set_option linter.unusedSimpArgs false
theorem ansE_len (C : List Ins) (R : Nat) (s : ByteArray) (fo : Bool) (f k st : Nat) : (ansE C R s fo f k st).1.length = 22 := by
  unfold ansE
  split
  · exact mt_len _ _
  split
  · rfl
  · rfl
theorem firE_len (C : List Ins) (r : Int) (s : ByteArray) (fo : Bool) (a b st : Int) : (firE C r s fo a b st).1.length = 22 := by
  unfold firE
  split
  · exact ansE_len _ _ _ _ _ _ _
  · rfl
section
variable {w : World} {ca : Option Addr} {N cc : Nat} {C : List Ins}
theorem first_any (hC : Cd w (.slice ca N cc) C) (hok : ∀ d ∈ C, d.set.ok) (fo : Bool) (r : Int) (s : ByteArray) (hz : s.size ≤ 1000000) (a b st : Int) (hb : a = b ∨ b = (s.size : Int)) :
    Calls Try.prog 17 #[.agg #[.slice ca N cc, .int .i64 r, .bool fo], .string s, .int .i64 a, .int .i64 b, .int .i64 st] w fun e w' => e = .returned (ansV (firE C r s fo a b st)) ∧ Kp w w' := by
  by_cases h : 0 ≤ st ∧ st ≤ 5000 ∧ 0 ≤ a ∧ a ≤ (s.size : Int) ∧ sndF C r = true
  · obtain ⟨h1, h2, h3, h4, h5⟩ := h
    obtain ⟨_, _, h6, _, _⟩ := sndF_fit h5
    have e : firE C r s fo a b st = ansE C r.toNat s fo (b + 1 - a).toNat a.toNat st.toNat := by unfold firE; rw [if_pos ⟨h1, h2, h3, h4, h5⟩]
    rw [e]
    obtain ⟨st, rfl⟩ : ∃ n : Nat, st = (n : Int) := ⟨st.toNat, by omega⟩
    obtain ⟨a, rfl⟩ : ∃ n : Nat, a = (n : Int) := ⟨a.toNat, by omega⟩
    obtain ⟨b, rfl⟩ : ∃ n : Nat, b = (n : Int) := ⟨b.toNat, by omega⟩
    obtain ⟨r, rfl⟩ : ∃ n : Nat, r = (n : Int) := ⟨r.toNat, by omega⟩
    have := first_ok hC hok fo h5 s hz (a := a) (b := b) (st := st) (by omega) (by omega) (by omega)
    rw [show ((b : Int) + 1 - (a : Int)).toNat = b + 1 - a by omega]
    simp only [Int.toNat_natCast]
    exact this
  · have e : firE C r s fo a b st = (List.replicate 22 0, 0, false, 1) := by unfold firE; rw [if_neg h]
    rw [e]
    exact first_no hC fo r s a b st h
set_option maxHeartbeats 4000000 in
set_option maxRecDepth 100000 in
theorem at_m (hC : Cd w (.slice ca N cc) C) (hok : ∀ d ∈ C, d.set.ok) (fo : Bool) (r : Int) (s : ByteArray) (hz : s.size ≤ 1000000) (a st : Int) :
    Calls Try.prog 11 #[.agg #[.slice ca N cc, .int .i64 r, .bool fo], .string s, .int .i64 a, .int .i64 st] w fun e w' => e = .returned (ansV (firE C r s fo a a st)) ∧ Kp w w' := by
  obtain ⟨dM, hM1, hM2⟩ := rowMatch
  have HT : Hid (Try.prog.underlying 25 = some dM ∧ dM.isRow = true) := ⟨hM1, hM2⟩
  clear hM1 hM2
  obtain ⟨ZL, hZL⟩ : ∃ L, z22 = L := ⟨_, rfl⟩
  have HZ : Hid (ZL.length = 22) := by rw [← hZL]; exact z22_len
  obtain ⟨p, hp⟩ : ∃ b, w.heap.size = b := ⟨_, rfl⟩
  have HP : Hid (w.heap.size = p) := hp
  obtain ⟨W1, hW1⟩ : ∃ W, (w.alloc (.cells #[.slice ca N cc, .int .i64 r, .bool fo] 32)).alloc (.cells #[.int .i64 0, .int .i64 0, .int .i64 0, .int .i64 0, .int .i64 0, .int .i64 0, .int .i64 0, .int .i64 0, .int .i64 0, .int .i64 0, .int .i64 0, .int .i64 0, .int .i64 0, .int .i64 0, .int .i64 0, .int .i64 0, .int .i64 0, .int .i64 0, .int .i64 0, .int .i64 0, .int .i64 0, .int .i64 0] 25) = W := ⟨_, rfl⟩
  have H1 : Hid (Kp w W1 ∧ Lc 32 p [.slice ca N cc, .int .i64 r, .bool fo] W1 ∧ Lc 25 (p + 1) ZL W1) := by
    rw [← hW1, ← hp, ← hZL]
    have e2 := Lc.new (w.alloc (.cells #[.slice ca N cc, .int .i64 r, .bool fo] 32)) z22 25
    rw [alloc_size] at e2
    exact ⟨kp_trans (kp_alloc _ _) (kp_alloc _ _), (Lc.new w [.slice ca N cc, .int .i64 r, .bool fo] 32).kp (kp_alloc _ _), e2⟩
  obtain ⟨X, hX⟩ : ∃ X, firE C r s fo a a st = X := ⟨_, rfl⟩
  rw [hX]
  have HC : Hid (Calls Try.prog 17 #[.agg #[.slice ca N cc, .int .i64 r, .bool fo], .string s, .int .i64 a, .int .i64 a, .int .i64 st] W1 fun e w' => e = .returned (.tuple #[.agg (slv X.1).toArray, .int .i64 X.2.1, .bool X.2.2.1, .int .u16 X.2.2.2]) ∧ Kp W1 w') := by
    have := first_any (hC.kp H1.out.1) hok fo r s hz a a st (.inl rfl)
    rw [hX] at this
    exact this
  have HL : Hid (X.1.length = 22) := by show _ = _; rw [← hX]; exact firE_len _ _ _ _ _ _ _
  obtain ⟨LX, hLX⟩ : ∃ L, slv X.1 = L := ⟨_, rfl⟩
  have HLX : Hid (LX.length = 22 ∧ (∀ v ∈ LX, v.oneCell' = true) ∧ slv X.1 = LX) := by rw [← hLX]; exact ⟨by rw [slv_len]; exact HL.out, slv_one _, rfl⟩
  rw [hLX] at HC
  obtain ⟨l, n, bb, er⟩ := X
  have c0 : W1.cell? ⟨p, 0, none⟩ = some (.slice ca N cc) := H1.out.2.1.at rfl
  have c1 : W1.cell? ⟨p, 1, none⟩ = some (.int .i64 r) := H1.out.2.1.at rfl
  have c2 : W1.cell? ⟨p, 2, none⟩ = some (.bool fo) := H1.out.2.1.at rfl
  clear hX hLX hC hok hZL hz
  go_enter Try.func11, Try.ntmps11
  go_upto_region 1 with fail
  try rw [hW1]
  try rw [hp]
  clear hW1 hp
  go_wp2_with (first | (go_at_call 17; refine Calls.mono HC.out ?_; rintro e W2 ⟨rfl, q⟩; have H2 : Hid (Kp w W2 ∧ Lc 25 (p + 1) ZL W2) := ⟨kp_trans H1.out.1 q, H1.out.2.2.kp q⟩; clear q) | (refine wpList_store_box H2.out.2 0 LX rfl 25 (.tmp 8) (.tmp 18) rfl rfl rfl (by rw [Nat.zero_add, HLX.out.1, HZ.out]; exact Nat.le_refl _) (by rw [HLX.out.1]; exact sizeMatch) HLX.out.2.1 (sets_full _ _ (by rw [HLX.out.1, HZ.out])) ?_; intro W7 q1 q2 q3; have H7 : Hid (Lc 25 (p + 1) LX W7 ∧ Kp w W7) := ⟨q1, H2.out.1.trans (q2.below H2.out.1.size fun j hj q => by unfold On at q; have := HP.out; omega)⟩; clear q1 q2 q3))
  (try simp only [Exit.inBlock, Exit.then])
  refine bodyPost_ret (results_box4 rfl rfl H7.out.1 HT.out.1 HT.out.2 (by rw [HLX.out.1]; exact sizeMatch)) rfl ?_
  refine ⟨?_, H7.out.2⟩
  unfold ansV
  rw [HLX.out.2.2]
  rfl
end
end Go.Proofs.Ytibgpkkgaekakaa
namespace Go.Proofs.Ytibgpkkgaekakaa
open Go.ChangeShapes Go.WideShapes Go.ChangeAt Go.RowKit
set_option linter.unusedVariables false
set_option linter.unusedSimpArgs false
def NS (r : FS) : Prop := ∀ d ∈ r.nds, d.set.ok
section
variable {s last : ByteArray} {r : FS} {b : Bs} {BRS : FS → Nat × FS}
theorem NS.wrong (h : NS r) (e a : Nat) : NS (wrongF e a r) := by unfold wrongF; split <;> exact h
theorem NS.node (h : NS r) {d : Nd} (hd : d.set.ok) : NS (nodeF d r).2 := by
  unfold nodeF
  split
  · exact h
  · intro x hx
    rcases List.mem_append.1 hx with q | q
    · exact h x q
    · simp only [List.mem_singleton] at q; subst q; exact hd
theorem NS.row (h : NS r) (op : Nat) (ks : List Nat) : NS (rowF op ks r).2 := by
  unfold rowF
  split
  · exact h.node ok_zero
  · exact h
  · exact h.node ok_zero
theorem NS.put (h : NS r) {d : Nd} (hd : d.set.ok) (m : Bool) : NS (putF d m r b).1 := h.node hd
theorem add_ok : ∀ (n : Nat) (q : S4) (c : Nat), q.ok → (n = 0 ∨ c + n ≤ 256) → (addL q c n).ok
  | 0, q, c, h, _ => h
  | n + 1, q, c, h, hc => add_ok n _ _ (ok_with h (by omega)) (by omega)
theorem clL_ok : ∀ (f a : Nat) (q : S4) (fl fi : Bool) (X : S4 × Bool × Nat), q.ok → clL s f a q fl fi = some X → X.1.ok
  | 0, a, q, fl, fi, X, h, e => by cases e
  | f + 1, a, q, fl, fi, X, h, e => by
    rw [clL] at e
    split at e
    · split at e
      · cases e; exact h
      split at e
      · exact clL_ok f _ _ _ _ X (ok_both h (nameF_ok _ _)) e
      · refine clL_ok f _ _ _ _ X (add_ok _ _ _ h ?_) e
        have := spF_le s a
        omega
    · cases e
theorem clF_ok (h : NS r) (o : Nat) : (clF s o r).1.ok ∧ NS (clF s o r).2.2 := by
  unfold clF
  split
  · exact ⟨ok_zero, h⟩
  · rename_i q fl en e
    have := clL_ok _ _ _ _ _ _ ok_zero e
    refine ⟨?_, ?_⟩
    · simp only
      split
      · exact ok_not this
      · exact this
    · simp only
      split
      · exact h.wrong _ _
      · exact h
theorem slC_ok (md cs nx c z : Nat) : (slC md cs nx c z).1.nd.set.ok := by
  unfold slC
  by_cases p1 : memB modS c = true
  · rw [if_pos p1]; exact ok_zero
  rw [if_neg p1]
  by_cases p2 : c = 99
  · rw [if_pos p2]; exact ok_zero
  rw [if_neg p2]
  by_cases p3 : c = 67
  · rw [if_pos p3]; exact ok_zero
  rw [if_neg p3]
  by_cases p4 : memB sgnS c = true
  · rw [if_pos p4]
    by_cases p5 : memB (plainS md) c = true
    · rw [if_pos p5]; exact ok_zero
    · rw [if_neg p5]; exact ok_zero
  rw [if_neg p4]
  by_cases p6 : 49 ≤ c ∧ c ≤ 57
  · rw [if_pos p6]; exact ok_zero
  rw [if_neg p6]
  by_cases p7 : knB (smI c) = true
  · rw [if_pos p7]; exact ok_fold _ _ (Nat.le_refl _)
  rw [if_neg p7]
  by_cases p8 : (letrF c).2 = true
  · rw [if_pos p8]; exact ok_zero
  rw [if_neg p8]
  by_cases p9 : c = 110
  · rw [if_pos p9]; exact ok_zero
  rw [if_neg p9]
  by_cases p10 : c = 122 ∧ z = 115
  · rw [if_pos p10]; exact ok_zero
  rw [if_neg p10]
  by_cases p11 : c = 122 ∧ z = 101
  · rw [if_pos p11]; exact ok_zero
  rw [if_neg p11]
  by_cases p12 : isB 119 c = true ∧ c ≠ 95
  · rw [if_pos p12]; exact ok_zero
  rw [if_neg p12]
  exact ok_zero
theorem tkF_ok (s : ByteArray) (md cs a : Nat) : (tkF s md cs a).1.nd.set.ok := by
  unfold tkF slashF
  repeat' split
  all_goals first | exact slC_ok _ _ _ _ _ | exact ok_zero
theorem NS.mny (h : NS r) (sg a nx : Nat) : NS (mnyF s sg a nx r b).1 := by
  unfold mnyF
  split
  · split
    · exact h.put ok_zero _
    · exact h.wrong _ _
  split
  · split
    · exact h.wrong _ _
    · exact h.node ok_zero
  · exact h.node ok_zero
theorem NS.lastL : ∀ (l : List Nat) (r : FS) (ks : List Nat), NS r → NS (lastL l r ks).1
  | [], r, ks, h => h
  | c :: cs, r, ks, h => by rw [Go.Proofs.Ytibgpkkgaekakaa.lastL]; exact NS.lastL cs _ _ (h.node ok_zero)
theorem NS.lst (h : NS r) : NS (lastF last r).2 := (NS.lastL _ _ _ h).row _ _
def KB (BRS : FS → Nat × FS) : Prop := ∀ r, NS r → NS (BRS r).2
theorem NS.grp (hB : KB BRS) (h : NS r) (a : Nat) : NS (grpF s BRS a r b).1 := by
  unfold grpF
  split
  · exact h.wrong _ _
  have h1 : NS (BRS { r with g := r.g + 1 }).2 := hB _ h
  simp only
  split
  · exact h1
  split
  · exact h1.wrong _ _
  · refine NS.put ?_ ok_zero _
    exact h1
theorem NS.sgn (hB : KB BRS) (h : NS r) (c a nx : Nat) : NS (sgnF s last BRS c a nx r b).1 := by
  have h0 : NS { r with k := nx } := h
  unfold sgnF
  simp only
  split
  · split <;> exact h0.put ok_zero _
  split
  · split <;> exact h0.put ok_zero _
  split
  · exact h0.put ok_zero _
  split
  · exact h0.put ok_zero _
  split
  · exact h0.put ok_zero _
  split
  · exact h0.lst
  split
  · have h1 := clF_ok (s := s) h0 (nx - 1)
    split
    · refine NS.put ?_ h1.1 _
      exact h1.2
    · exact h1.2.put ok_zero _
  split
  · exact h0.grp hB _
  · exact h0.mny _ _ _
theorem NS.bch (hB : KB BRS) (wi : Bool) : ∀ (f : Nat) (r : FS) (b : Bs), NS r → NS (bchL s last BRS wi f r b).1
  | 0, r, b, h => h
  | f + 1, r, b, h => by
    rw [bchL]
    split
    · simp only
      split
      · exact h.wrong _ _
      split
      · refine NS.bch hB wi f _ _ ?_
        exact h
      split
      · exact h
      split
      · exact h.wrong _ _
      split
      · exact NS.bch hB wi f _ _ (h.sgn hB _ _ _)
      split
      · exact h.wrong _ _
      · refine NS.bch hB wi f _ _ (NS.put ?_ (tkF_ok _ _ _ _) _)
        exact h
    · exact h
theorem NS.bchF (hB : KB BRS) (wi : Bool) (h : NS r) : NS (bchF s last BRS wi r).2 := (NS.bch hB wi _ _ _ h).row _ _
theorem NS.bss (hB : KB BRS) (wi : Bool) : ∀ (f : Nat) (r : FS) (ks : List Nat), NS r → NS (bssL s last BRS wi f r ks).1
  | 0, r, ks, h => h
  | f + 1, r, ks, h => by
    rw [bssL]
    split
    · split
      · refine NS.bss hB wi f _ _ (NS.bchF hB wi ?_)
        exact h
      · exact h
    · exact h
theorem NS.bssF (hB : KB BRS) (wi : Bool) (h : NS r) : NS (bssF s last BRS wi r).2 := (NS.bss hB wi _ _ _ (h.bchF hB wi)).row _ _
theorem bsN_ns : ∀ n, KB (bsN s last n)
  | 0 => fun r h => h
  | n + 1 => fun r h => h.bssF (bsN_ns n) true
theorem refF_ns {X : Nat × FS} (h : refF s last = .ok X) : NS X.2 := by
  unfold refF at h
  split at h
  · cases h
  simp only at h
  split at h
  · cases h
  split at h
  · cases h
  · injection h with h
    rw [← h]
    refine NS.bssF (bsN_ns 9) false ?_
    intro d hd
    cases hd
end
def CS (x : Ds) : Prop := ∀ d ∈ x.c, d.set.ok
def KS (N : Int → Ds → Ds) : Prop := ∀ k x, CS x → CS (N k x)
section
variable {x : Ds} {N : Int → Ds → Ds}
theorem CS.lay (h : CS x) {d : Ins} (hd : d.set.ok) : CS (layE d x).2 := by
  unfold layE
  split
  · exact h
  · intro e he
    rcases List.mem_append.1 he with q | q
    · exact h e q
    · simp only [List.mem_singleton] at q; subst q; exact hd
theorem toL_ok {c : List Ins} (h : ∀ d ∈ c, d.set.ok) (k out : Nat) (lz : Bool) : ∀ d ∈ toL c k out lz, d.set.ok := by
  unfold toL
  split
  · exact h
  · rename_i d e
    intro x hx
    rcases List.mem_or_eq_of_mem_set hx with q | q
    · exact h x q
    · subst q; exact h d (List.mem_of_getElem? e)
theorem setX_ok {c : List Ins} (h : ∀ d ∈ c, d.set.ok) (k out : Nat) : ∀ d ∈ setX c k out, d.set.ok := by
  unfold setX
  split
  · exact h
  · rename_i d e
    intro x hx
    rcases List.mem_or_eq_of_mem_set hx with q | q
    · exact h x q
    · subst q; exact h d (List.mem_of_getElem? e)
theorem CS.tos (lz : Bool) : ∀ (l : List Nat) (x : Ds), CS x → CS (tosE lz l x)
  | [], x, h => h
  | a :: l, x, h => by rw [tosE]; exact CS.tos lz l _ (toL_ok h _ _ _)
theorem CS.jmp : ∀ (l : List Nat) (x : Ds), CS x → CS (jmpE l x)
  | [], x, h => h
  | a :: l, x, h => by rw [jmpE]; exact CS.jmp l _ (setX_ok h _ _)
theorem CS.round (hN : KS N) (k : Int) (h : CS x) : CS (roundE N k x).2 := by
  unfold roundE
  refine CS.lay (hN _ _ (CS.lay ?_ ok_zero)) ok_zero
  exact h.lay ok_zero
theorem CS.rep (hN : KS N) (k : Int) : ∀ (n : Nat) (x : Ds), CS x → CS (repE N k n x)
  | 0, x, h => h
  | n + 1, x, h => by
    rw [repE]
    split
    · exact h
    · exact CS.rep hN k n _ (hN _ _ h)
theorem CS.tries (hN : KS N) (k : Int) : ∀ (n : Nat) (l : List Nat) (x : Ds), CS x → CS (triesE N k n l x).2
  | 0, l, x, h => h
  | n + 1, l, x, h => by
    rw [triesE]
    split
    · exact h
    · exact CS.tries hN k n _ _ (h.round hN k)
theorem CS.many (hN : KS N) (k : Int) (mn : Nat) (mx : Int) (lz : Bool) (h : CS x) : CS (manyE N k mn mx lz x) := by
  have h1 := CS.rep hN k mn x h
  unfold manyE
  split
  · exact h1
  split
  · unfold infE
    exact CS.tos lz _ _ (CS.lay (h1.round hN k) ok_zero)
  · exact CS.tos lz _ _ (CS.tries hN k _ _ _ h1)
theorem CS.way (hN : KS N) (k : Int) (h : CS x) : CS (wayE N k x).2 := by
  unfold wayE
  exact toL_ok (CS.lay (hN _ _ (h.lay ok_zero)) ok_zero) _ _ _
theorem CS.alt (hN : KS N) : ∀ (ks : List Int) (l : List Nat) (x : Ds), CS x → CS (altL N ks l x).2
  | [], l, x, h => h
  | k :: ks, l, x, h => by
    rw [altL]
    split
    · exact h
    split
    · exact hN _ _ h
    · exact CS.alt hN ks _ _ (h.way hN k)
theorem CS.cat (hN : KS N) : ∀ (ks : List Int) (x : Ds), CS x → CS (catE N ks x)
  | [], x, h => h
  | k :: ks, x, h => by rw [catE]; exact CS.cat hN ks _ (hN _ _ h)
theorem CS.step (hN : KS N) {d : Nq} (hd : d.set.ok) (h : CS x) : CS (stepE N d x) := by
  unfold stepE
  split
  · exact h.lay ok_zero
  split
  · exact h.lay ok_zero
  split
  · exact h.lay hd
  split
  · exact CS.cat hN _ _ h
  split
  · exact CS.jmp _ _ (CS.alt hN _ _ _ h)
  split
  · exact h.many hN _ _ _ _
  split
  · exact CS.lay (hN _ _ (h.lay ok_zero)) ok_zero
  split
  · exact h.lay ok_zero
  split
  · exact h.lay ok_zero
  split
  · exact h.lay ok_zero
  split
  · exact h.lay ok_zero
  · exact h
theorem node_cs {L : List Nq} (hL : ∀ d ∈ L, d.set.ok) : ∀ f, KS (nodeE L f)
  | 0 => fun k x h => h
  | f + 1 => fun k x h => by
    rw [nodeE]
    split
    · exact h
    · refine h.step (node_cs hL f) ?_
      unfold nodeAt
      cases e : L[k.toNat]? with
      | none => exact ok_zero
      | some d => exact hL d (List.mem_of_getElem? e)
theorem cpd_ok (s : ByteArray) (fold : Bool) : ∀ d ∈ (cpdE s fold).1, d.set.ok := by
  unfold cpdE
  split
  · intro d hd; cases hd
  · rename_i root r e
    have h1 : ∀ d ∈ r.nds.map Nd.q, d.set.ok := by
      intro d hd
      obtain ⟨y, hy, rfl⟩ := List.mem_map.1 hd
      exact refF_ns e y hy
    unfold cmpE
    split
    · intro d hd; cases hd
    split
    · intro d hd; cases hd
    · refine CS.lay (node_cs h1 _ _ _ ?_) ok_zero
      intro d hd; cases hd
end
end Go.Proofs.Ytibgpkkgaekakaa
namespace Go.Proofs.Ytibgpkkgaekakaa
open Go.ChangeShapes Go.WideShapes Go.ChangeAt Go.RowKit
set_option linter.unusedVariables false
set_option linter.unusedSimpArgs false
def Rg (x : Int) : Prop := -9223372036854775808 ≤ x ∧ x ≤ 9223372036854775807
end Go.Proofs.Ytibgpkkgaekakaa
namespace Go.Proofs.Ytibgpkkgaekakaa
open Go.ChangeShapes Go.WideShapes Go.ChangeAt Go.RowKit
set_option linter.unusedVariables false
set_option linter.unusedSimpArgs false
def gol (W : Int → List Bool → Bool × List Bool) : List Int → List Bool → Bool × List Bool
  | [], sn => (true, sn)
  | k :: ks, sn => if (W k sn).1 = false then (false, (W k sn).2) else gol W ks (W k sn).2
def wlk2 (L : List Nq) (G : Int) : Nat → Int → List Bool → Bool × List Bool
  | 0, _, sn => (false, sn)
  | f + 1, k, sn =>
    if hasB L k = false ∨ sn.getD k.toNat true = true then (false, sn)
    else if (kidsR (nodeAt L k) && numbR G (nodeAt L k) && timR (nodeAt L k)) = false then (false, sn.set k.toNat true)
    else if (gol (wlk2 L G f) (nodeAt L k).kids (sn.set k.toNat true)).1 = false then (false, (gol (wlk2 L G f) (nodeAt L k).kids (sn.set k.toNat true)).2)
    else (if (nodeAt L k).op = 7 then sngR L (nodeAt L ((nodeAt L k).kids.headD 0)) else true, (gol (wlk2 L G f) (nodeAt L k).kids (sn.set k.toNat true)).2)
theorem wlkL_eq {L : List Nq} {G : Int} {f : Nat} (h : ∀ k sn, wlk L G f k sn = wlk2 L G f k sn) : ∀ (ks : List Int) (sn : List Bool), wlkL L G f ks sn = gol (wlk2 L G f) ks sn
  | [], sn => by rw [wlkL, gol]
  | k :: ks, sn => by rw [wlkL, gol, h, wlkL_eq h ks]
theorem wlk_eq (L : List Nq) (G : Int) : ∀ (f : Nat) (k : Int) (sn : List Bool), wlk L G f k sn = wlk2 L G f k sn
  | 0, k, sn => by rw [wlk, wlk2]
  | f + 1, k, sn => by rw [wlk, wlk2, wlkL_eq (wlk_eq L G f)]
def sndR2 (L : List Nq) (root G : Int) : Bool := decide (0 ≤ G ∧ G ≤ 9) && (wlk2 L G (L.length + 1) root (List.replicate L.length false)).1
def cmpE2 (L : List Nq) (root G cs : Int) (fold : Bool) : Nat × List Ins × Nat × Bool :=
  if sndR2 L root G = false then (1, [], 0, false)
  else if (layE { op := 14 } (nodeE L (L.length + 1) root ⟨[], 0, false⟩)).2.lg = true ∨ 2000 < (layE { op := 14 } (nodeE L (L.length + 1) root ⟨[], 0, false⟩)).2.c.length then (33, [], 0, false)
  else (0, (layE { op := 14 } (nodeE L (L.length + 1) root ⟨[], 0, false⟩)).2.c, (layE { op := 14 } (nodeE L (L.length + 1) root ⟨[], 0, false⟩)).2.r, if cs = 0 then fold else cs == 1)
def cpdE2 (s : ByteArray) (fold : Bool) : List Ins × Nat × Bool :=
  match refF s ⟨#[]⟩ with
  | .error _ => ([], 0, false)
  | .ok (root, r) => (cmpE2 (r.nds.map Nd.q) root r.g r.cs fold).2
theorem cpd_eq (s : ByteArray) (fold : Bool) : cpdE s fold = cpdE2 s fold := by
  have e : ∀ L root G, sndR L root G = sndR2 L root G := by intro L root G; unfold sndR sndR2; rw [wlk_eq]
  unfold cpdE cpdE2
  cases refF s ⟨#[]⟩ with
  | error E => rfl
  | ok X =>
    obtain ⟨root, r⟩ := X
    simp only
    unfold cmpE cmpE2
    rw [e]
def exA (X : List Ins × Nat × Bool) : List Int × Nat × Bool × Nat := firE X.1 X.2.1 ⟨#[97, 97, 98]⟩ X.2.2 0 0 100
def exB (X : List Ins × Nat × Bool) : List Int × Nat × Bool × Nat := firE X.1 X.2.1 ⟨#[97, 97]⟩ X.2.2 0 0 100
set_option maxRecDepth 100000 in
theorem ex_a2 : ((exA (cpdE2 ⟨#[97, 42]⟩ false)).2.2.1 && (exA (cpdE2 ⟨#[97, 42]⟩ false)).2.2.2 == 0 && (exA (cpdE2 ⟨#[97, 42]⟩ false)).1.getD 0 0 == 0 && (exA (cpdE2 ⟨#[97, 42]⟩ false)).1.getD 1 0 == 2) = true := by kernel_rfl
set_option maxRecDepth 100000 in
theorem ex_b2 : ((exB (cpdE2 ⟨#[92, 40, 97, 92, 41, 92, 49]⟩ false)).2.2.1 && (exB (cpdE2 ⟨#[92, 40, 97, 92, 41, 92, 49]⟩ false)).2.2.2 == 0 && (exB (cpdE2 ⟨#[92, 40, 97, 92, 41, 92, 49]⟩ false)).1.getD 1 0 == 2 && (exB (cpdE2 ⟨#[92, 40, 97, 92, 41, 92, 49]⟩ false)).1.getD 3 0 == 0 && (exB (cpdE2 ⟨#[92, 40, 97, 92, 41, 92, 49]⟩ false)).1.getD 13 0 == 1) = true := by kernel_rfl
theorem ex_a : (exA (cpdE ⟨#[97, 42]⟩ false)).2.2.1 = true ∧ (exA (cpdE ⟨#[97, 42]⟩ false)).2.2.2 = 0 ∧ (exA (cpdE ⟨#[97, 42]⟩ false)).1.getD 0 0 = 0 ∧ (exA (cpdE ⟨#[97, 42]⟩ false)).1.getD 1 0 = 2 := by
  have := ex_a2
  rw [← cpd_eq] at this
  simp only [Bool.and_eq_true, beq_iff_eq] at this
  exact ⟨this.1.1.1, this.1.1.2, this.1.2, this.2⟩
theorem ex_b : (exB (cpdE ⟨#[92, 40, 97, 92, 41, 92, 49]⟩ false)).2.2.1 = true ∧ (exB (cpdE ⟨#[92, 40, 97, 92, 41, 92, 49]⟩ false)).2.2.2 = 0 ∧ (exB (cpdE ⟨#[92, 40, 97, 92, 41, 92, 49]⟩ false)).1.getD 1 0 = 2 ∧ (exB (cpdE ⟨#[92, 40, 97, 92, 41, 92, 49]⟩ false)).1.getD 3 0 = 0 ∧ (exB (cpdE ⟨#[92, 40, 97, 92, 41, 92, 49]⟩ false)).1.getD 13 0 = 1 := by
  have := ex_b2
  rw [← cpd_eq] at this
  simp only [Bool.and_eq_true, beq_iff_eq] at this
  exact ⟨this.1.1.1.1, this.1.1.1.2, this.1.1.2, this.1.2, this.2⟩
end Go.Proofs.Ytibgpkkgaekakaa
namespace Go.Proofs.Ytibgpkkgaekakaa
open Go.ChangeShapes Go.WideShapes Go.ChangeAt Go.RowKit
set_option linter.unusedVariables false
set_option linter.unusedSimpArgs false
set_option maxHeartbeats 8000000 in
set_option maxRecDepth 100000 in
theorem known_m (w : World) : Calls Try.prog 10 #[] w fun e w' => e = .returned (.bool true) ∧ Kp w w' := by
  obtain ⟨XA, hXA⟩ : ∃ X, cpdE ⟨#[97, 42]⟩ false = X := ⟨_, rfl⟩
  have HXA : Hid (cpdE ⟨#[97, 42]⟩ false = XA) := hXA
  have HOKA : Hid (∀ d ∈ XA.1, d.set.ok) := by rw [← hXA]; exact cpd_ok _ _
  obtain ⟨YA, hYA⟩ : ∃ Y, exA XA = Y := ⟨_, rfl⟩
  have hEA := ex_a
  rw [hXA, hYA] at hEA
  obtain ⟨LA, hLA⟩ : ∃ L, slv YA.1 = L := ⟨_, rfl⟩
  have hlA : YA.1.length = 22 := by rw [← hYA]; exact firE_len _ _ _ _ _ _ _
  have HYA : Hid (exA XA = YA ∧ YA.2.2.1 = true ∧ YA.2.2.2 = 0) := ⟨hYA, hEA.1, hEA.2.1⟩
  have HLA : Hid (LA.length = 22 ∧ (∀ v ∈ LA, v.oneCell' = true) ∧ slv YA.1 = LA) := by rw [← hLA]; exact ⟨by rw [slv_len]; exact hlA, slv_one _, rfl⟩
  obtain ⟨XB, hXB⟩ : ∃ X, cpdE ⟨#[92, 40, 97, 92, 41, 92, 49]⟩ false = X := ⟨_, rfl⟩
  have HXB : Hid (cpdE ⟨#[92, 40, 97, 92, 41, 92, 49]⟩ false = XB) := hXB
  have HOKB : Hid (∀ d ∈ XB.1, d.set.ok) := by rw [← hXB]; exact cpd_ok _ _
  obtain ⟨YB, hYB⟩ : ∃ Y, exB XB = Y := ⟨_, rfl⟩
  have hEB := ex_b
  rw [hXB, hYB] at hEB
  obtain ⟨LB, hLB⟩ : ∃ L, slv YB.1 = L := ⟨_, rfl⟩
  have hlB : YB.1.length = 22 := by rw [← hYB]; exact firE_len _ _ _ _ _ _ _
  have HYB : Hid (exB XB = YB ∧ YB.2.2.1 = true ∧ YB.2.2.2 = 0) := ⟨hYB, hEB.1, hEB.2.1⟩
  have HLB : Hid (LB.length = 22 ∧ (∀ v ∈ LB, v.oneCell' = true) ∧ slv YB.1 = LB) := by rw [← hLB]; exact ⟨by rw [slv_len]; exact hlB, slv_one _, rfl⟩
  have lA0 : LA[0]? = some (.int .i64 0) := by rw [← hLA, slv_get (by omega) 0, hEA.2.2.1]
  have lA1 : LA[1]? = some (.int .i64 2) := by rw [← hLA, slv_get (by omega) 0, hEA.2.2.2]
  have lB1 : LB[1]? = some (.int .i64 2) := by rw [← hLB, slv_get (by omega) 0, hEB.2.2.1]
  have lB3 : LB[3]? = some (.int .i64 0) := by rw [← hLB, slv_get (by omega) 0, hEB.2.2.2.1]
  have lB13 : LB[13]? = some (.int .i64 1) := by rw [← hLB, slv_get (by omega) 0, hEB.2.2.2.2]
  have HLL : Hid (LA[0]? = some (.int .i64 0) ∧ LA[1]? = some (.int .i64 2) ∧ LB[1]? = some (.int .i64 2) ∧ LB[3]? = some (.int .i64 0) ∧ LB[13]? = some (.int .i64 1)) := ⟨lA0, lA1, lB1, lB3, lB13⟩
  clear hXA hXB hYA hYB hEA hEB hLA hLB hlA hlB lA0 lA1 lB1 lB3 lB13
  go_enter Try.func10, Try.ntmps10
  have HCA : Hid (Calls Try.prog 12 #[.string ⟨#[97, 42]⟩, .bool false] w (CpdP w XA)) := by have := compiled_any ⟨#[97, 42]⟩ false w; rw [HXA.out] at this; exact this
  go_upto_region 2 with (go_at_call 12; refine Calls.mono HCA.out ?_; rintro e vA ⟨q1, cv, rfl, q2⟩; obtain ⟨caA, ccA, rfl, u1, u2⟩ := owns_form q2; have HVA : Hid (Kp w vA ∧ Cd vA (.slice caA XA.1.length ccA) XA.1) := ⟨kp_trans (Below.refl _ _) q1, row_cd q2⟩; clear q1 q2)
  obtain ⟨NA, hNA⟩ : ∃ N, XA.1.length = N := ⟨_, rfl⟩
  rw [hNA] at HVA u1 ⊢
  obtain ⟨bA, hbA⟩ : ∃ b, vA.heap.size = b := ⟨_, rfl⟩
  obtain ⟨W1, hW1⟩ : ∃ W, vA.alloc (.cells #[.slice caA NA ccA, .int .i64 XA.2.1, .bool XA.2.2] 32) = W := ⟨_, rfl⟩
  have HW1 : Hid (Kp w W1 ∧ Kp vA W1 ∧ Lc 32 bA [.slice caA NA ccA, .int .i64 XA.2.1, .bool XA.2.2] W1 ∧ Cd W1 (.slice caA NA ccA) XA.1) := by
    rw [← hW1, ← hbA]
    exact ⟨kp_trans HVA.out.1 (kp_alloc _ _), kp_alloc _ _, Lc.new vA [.slice caA NA ccA, .int .i64 XA.2.1, .bool XA.2.2] _, HVA.out.2.kp (kp_alloc _ _)⟩
  try rw [hW1]
  try rw [hbA]
  clear hW1 hbA hNA u2 u1
  have HCB : Hid (Calls Try.prog 12 #[.string ⟨#[92, 40, 97, 92, 41, 92, 49]⟩, .bool false] W1 (CpdP W1 XB)) := by have := compiled_any ⟨#[92, 40, 97, 92, 41, 92, 49]⟩ false W1; rw [HXB.out] at this; exact this
  go_upto_region 3 with (go_at_call 12; refine Calls.mono HCB.out ?_; rintro e vB ⟨q1, cv, rfl, q2⟩; obtain ⟨caB, ccB, rfl, u1, u2⟩ := owns_form q2; have HKB : Hid (Kp W1 vB) := q1; have HVB : Hid (Kp w vB ∧ Cd vB (.slice caB XB.1.length ccB) XB.1) := ⟨kp_trans HW1.out.1 q1, row_cd q2⟩; clear q1 q2)
  obtain ⟨NB, hNB⟩ : ∃ N, XB.1.length = N := ⟨_, rfl⟩
  rw [hNB] at HVB u1 ⊢
  obtain ⟨bB, hbB⟩ : ∃ b, vB.heap.size = b := ⟨_, rfl⟩
  obtain ⟨W2, hW2⟩ : ∃ W, vB.alloc (.cells #[.slice caB NB ccB, .int .i64 XB.2.1, .bool XB.2.2] 32) = W := ⟨_, rfl⟩
  have HW2 : Hid (Kp w W2 ∧ Kp vB W2 ∧ Lc 32 bB [.slice caB NB ccB, .int .i64 XB.2.1, .bool XB.2.2] W2 ∧ Cd W2 (.slice caB NB ccB) XB.1) := by
    rw [← hW2, ← hbB]
    exact ⟨kp_trans HVB.out.1 (kp_alloc _ _), kp_alloc _ _, Lc.new vB [.slice caB NB ccB, .int .i64 XB.2.1, .bool XB.2.2] _, HVB.out.2.kp (kp_alloc _ _)⟩
  try rw [hW2]
  try rw [hbB]
  clear hW2 hbB hNB u2 u1
  have HK12 : Hid (Kp W1 W2) := by
    have h1 := HVB.out.1
    exact kp_trans HKB.out HW2.out.2.1
  have p0A : W2.cell? ⟨bA, 0, none⟩ = some (.slice caA NA ccA) := (HW1.out.2.2.1.kp HK12.out).at rfl
  have p1A : W2.cell? ⟨bA, 1, none⟩ = some (.int .i64 XA.2.1) := (HW1.out.2.2.1.kp HK12.out).at rfl
  have p2A : W2.cell? ⟨bA, 2, none⟩ = some (.bool XA.2.2) := (HW1.out.2.2.1.kp HK12.out).at rfl
  have HATA : Hid (Calls Try.prog 11 #[.agg #[.slice caA NA ccA, .int .i64 XA.2.1, .bool XA.2.2], .string ⟨#[97, 97, 98]⟩, .int .i64 0, .int .i64 100] W2 fun e w' => e = .returned (.tuple #[.agg LA.toArray, .int .i64 YA.2.1, .bool true, .int .u16 0]) ∧ Kp W2 w') := by
    have := at_m (HW1.out.2.2.2.kp HK12.out) (HOKA.out) XA.2.2 XA.2.1 ⟨#[97, 97, 98]⟩ (by decide) 0 100
    rw [show firE XA.1 XA.2.1 ⟨#[97, 97, 98]⟩ XA.2.2 0 0 100 = YA from HYA.out.1] at this
    unfold ansV at this
    rw [HLA.out.2.2, HYA.out.2.1, HYA.out.2.2] at this
    exact this
  go_upto_region 4 with (first | (go_at_call 11; refine Calls.mono HATA.out ?_; rintro e tA ⟨rfl, q⟩; have HTA : Hid (Kp W2 tA) := q; clear q; obtain ⟨mA, hmA⟩ : ∃ b, tA.heap.size = b := ⟨_, rfl⟩; obtain ⟨zA, hzA⟩ : ∃ W, tA.alloc (.cells #[.int .i64 0, .int .i64 0, .int .i64 0, .int .i64 0, .int .i64 0, .int .i64 0, .int .i64 0, .int .i64 0, .int .i64 0, .int .i64 0, .int .i64 0, .int .i64 0, .int .i64 0, .int .i64 0, .int .i64 0, .int .i64 0, .int .i64 0, .int .i64 0, .int .i64 0, .int .i64 0, .int .i64 0, .int .i64 0] 25) = W := ⟨_, rfl⟩; have HZA : Hid (Kp W2 zA ∧ Lc 25 mA z22 zA ∧ tA.heap.size = mA) := (by rw [← hzA, ← hmA]; exact ⟨kp_trans HTA.out (kp_alloc _ _), Lc.new tA z22 _, rfl⟩)) | (refine wpList_store_box HZA.out.2.1 0 LA rfl 25 (.tmp 3) (.tmp 16) rfl rfl rfl (by rw [Nat.zero_add, HLA.out.1]; exact Nat.le_refl _) (by rw [HLA.out.1]; exact sizeMatch) HLA.out.2.1 (sets_full _ _ (by rw [HLA.out.1]; rfl)) ?_; intro W3 q1 q2 q3; have HW3 : Hid (Kp W2 W3 ∧ Lc 25 mA LA W3) := ⟨HZA.out.1.trans (q2.below HZA.out.1.size fun j hj q => by unfold On at q; have h1 := HZA.out.2.2; have h2 := HTA.out.size; omega), q1⟩; clear q1 q2 q3))
  clear hmA hzA p0A p1A p2A
  have p0B : W3.cell? ⟨bB, 0, none⟩ = some (.slice caB NB ccB) := (HW2.out.2.2.1.kp HW3.out.1).at rfl
  have p1B : W3.cell? ⟨bB, 1, none⟩ = some (.int .i64 XB.2.1) := (HW2.out.2.2.1.kp HW3.out.1).at rfl
  have p2B : W3.cell? ⟨bB, 2, none⟩ = some (.bool XB.2.2) := (HW2.out.2.2.1.kp HW3.out.1).at rfl
  have HATB : Hid (Calls Try.prog 11 #[.agg #[.slice caB NB ccB, .int .i64 XB.2.1, .bool XB.2.2], .string ⟨#[97, 97]⟩, .int .i64 0, .int .i64 100] W3 fun e w' => e = .returned (.tuple #[.agg LB.toArray, .int .i64 YB.2.1, .bool true, .int .u16 0]) ∧ Kp W3 w') := by
    have := at_m (HW2.out.2.2.2.kp HW3.out.1) (HOKB.out) XB.2.2 XB.2.1 ⟨#[97, 97]⟩ (by decide) 0 100
    rw [show firE XB.1 XB.2.1 ⟨#[97, 97]⟩ XB.2.2 0 0 100 = YB from HYB.out.1] at this
    unfold ansV at this
    rw [HLB.out.2.2, HYB.out.2.1, HYB.out.2.2] at this
    exact this
  go_upto_region 5 with (first | (go_at_call 11; refine Calls.mono HATB.out ?_; rintro e tB ⟨rfl, q⟩; have HTB : Hid (Kp W3 tB) := q; clear q; obtain ⟨mB, hmB⟩ : ∃ b, tB.heap.size = b := ⟨_, rfl⟩; obtain ⟨zB, hzB⟩ : ∃ W, tB.alloc (.cells #[.int .i64 0, .int .i64 0, .int .i64 0, .int .i64 0, .int .i64 0, .int .i64 0, .int .i64 0, .int .i64 0, .int .i64 0, .int .i64 0, .int .i64 0, .int .i64 0, .int .i64 0, .int .i64 0, .int .i64 0, .int .i64 0, .int .i64 0, .int .i64 0, .int .i64 0, .int .i64 0, .int .i64 0, .int .i64 0] 25) = W := ⟨_, rfl⟩; have HZB : Hid (Kp W3 zB ∧ Lc 25 mB z22 zB ∧ tB.heap.size = mB) := (by rw [← hzB, ← hmB]; exact ⟨kp_trans HTB.out (kp_alloc _ _), Lc.new tB z22 _, rfl⟩)) | (refine wpList_store_box HZB.out.2.1 0 LB rfl 25 (.tmp 7) (.tmp 23) rfl rfl rfl (by rw [Nat.zero_add, HLB.out.1]; exact Nat.le_refl _) (by rw [HLB.out.1]; exact sizeMatch) HLB.out.2.1 (sets_full _ _ (by rw [HLB.out.1]; rfl)) ?_; intro W4 q1 q2 q3; have HW4 : Hid (Kp W3 W4 ∧ Lc 25 mB LB W4) := ⟨HZB.out.1.trans (q2.below HZB.out.1.size fun j hj q => by unfold On at q; have h1 := HZB.out.2.2; have h2 := HTB.out.size; omega), q1⟩; clear q1 q2 q3))
  clear hmB hzB p0B p1B p2B
  have a0 : W4.cell? ⟨mA, 0, none⟩ = some (.int .i64 0) := (HW3.out.2.kp HW4.out.1).at HLL.out.1
  have a1 : W4.cell? ⟨mA, 1, none⟩ = some (.int .i64 2) := (HW3.out.2.kp HW4.out.1).at HLL.out.2.1
  have e1 : W4.cell? ⟨mB, 1, none⟩ = some (.int .i64 2) := HW4.out.2.at HLL.out.2.2.1
  have e3 : W4.cell? ⟨mB, 3, none⟩ = some (.int .i64 0) := HW4.out.2.at HLL.out.2.2.2.1
  have e13 : W4.cell? ⟨mB, 13, none⟩ = some (.int .i64 1) := HW4.out.2.at HLL.out.2.2.2.2
  go_wp2_with fail
  go_ret
  exact ⟨rfl, kp_trans HW2.out.1 (kp_trans HW3.out.1 HW4.out.1)⟩
end Go.Proofs.Ytibgpkkgaekakaa
namespace Go.Proofs.Ytibgpkkgaekakaa
open Go.ChangeShapes Go.WideShapes Go.ChangeAt Go.RowKit
set_option linter.unusedVariables false
set_option linter.unusedSimpArgs false
section
variable {C : List Ins} {s : ByteArray} {fo : Bool} {R : Nat}
theorem ans_one (C : List Ins) (R : Nat) (s : ByteArray) (fo : Bool) (j st : Nat) :
    ((atE C s fo j (newE R st)).1 = 0 → (ansE C R s fo 1 j st).2.2 = (false, 0)) ∧ ((atE C s fo j (newE R st)).1 = 1 → (ansE C R s fo 1 j st).2.2 = (true, 0) ∧ (ansE C R s fo 1 j st).1 = mtE (atE C s fo j (newE R st)).2.t j) := by
  have e : frmE C s fo 1 j (newE R st) = if (atE C s fo j (newE R st)).1 = 0 then (0, j + 1, (atE C s fo j (newE R st)).2) else ((atE C s fo j (newE R st)).1, j, (atE C s fo j (newE R st)).2) := rfl
  constructor
  · intro h
    unfold ansE
    rw [e, if_pos h]
    rfl
  · intro h
    have hn : ¬ (atE C s fo j (newE R st)).1 = 0 := by omega
    rw [if_neg hn] at e
    unfold ansE
    rw [e, if_pos h]
    exact ⟨rfl, rfl⟩
end
end Go.Proofs.Ytibgpkkgaekakaa
namespace Go.Proofs.Ytibgpkkgaekakaa
open Go.ChangeShapes Go.WideShapes Go.ChangeAt Go.RowKit
set_option linter.unusedVariables false
set_option linter.unusedSimpArgs false
end Go.Proofs.Ytibgpkkgaekakaa
namespace Go.Proofs.Ytibgpkkgaekakaa
open Go.ChangeShapes Go.WideShapes Go.ChangeAt Go.RowKit
set_option linter.unusedVariables false
set_option linter.unusedSimpArgs false
section
variable {C : List Ins} {s : ByteArray} {fo : Bool} {R z : Nat} {m : Mc}
end
end Go.Proofs.Ytibgpkkgaekakaa
namespace Go.Proofs.Ytibgpkkgaekakaa
open Go.ChangeShapes Go.WideShapes Go.ChangeAt Go.RowKit
set_option linter.unusedVariables false
set_option linter.unusedSimpArgs false
end Go.Proofs.Ytibgpkkgaekakaa
