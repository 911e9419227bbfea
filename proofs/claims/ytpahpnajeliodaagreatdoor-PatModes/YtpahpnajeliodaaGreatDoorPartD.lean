/- Texts that the proof of the law stands on: Many, Again, Items1, Items2, Named, PShelf, Items3, Items4. -/
import Derived.Test.YtpahpnajeliodaaGreatDoorPartC
import Derived.Test.YtpahpnajeliodaaGreatDoorPartB
import Derived.Ground.NamesProg
import Derived.Shelf.Strings.Cut
import Derived.Test.YtpahpnajeliodaaGreatDoorProg
/- The reader's call many. -/
namespace Go.Proofs.YtpahpnajeliodaaGreatDoor
open Go.ChangeShapes Go.WideShapes Go.ChangeAt Go.RowKit
set_option linter.unusedVariables false
set_option linter.unusedSimpArgs false
def opOf (r : RS) (p : Nat) : Nat := ((r.nds[p]?).map (·.op)).getD 0
def manyF (s : ByteArray) (t : Tok) (ks : List Nat) (r : RS) : Except (Nat × Nat) (List Nat × RS) :=
  match ks.getLast? with
  | none => if t.c ≠ 42 then .error (32, t.pl) else .ok (ks ++ [r.nds.length], { r with nds := r.nds ++ [{ op := 2, c := t.c }] })
  | some p =>
    if repB (opOf r p) then
      match timesF s t r with
      | .error e => .error e
      | .ok (d, r1) => .ok (ks.set (ks.length - 1) r1.nds.length, { r1 with nds := r1.nds ++ [{ d with kids := [p] }] })
    else if t.c ≠ 42 then .error (32, t.pl) else .ok (ks ++ [r.nds.length], { r with nds := r.nds ++ [{ op := 2, c := t.c }] })
theorem timesF_nds {s : ByteArray} {t : Tok} {r r1 : RS} {d : Nd} (h : timesF s t r = .ok (d, r1)) : r1.nds = r.nds := by
  unfold timesF at h
  split at h
  · cases h; rfl
  · split at h
    · cases h; rfl
    · split at h
      · split at h
        · cases h
        · cases h; rfl
      · cases h; rfl
/-- What a call that answers a list of numbers comes to. -/
def RetL (B rb : Nat) (s last : ByteArray) (vn : Qv) (v : Value) (w : World) (R : Except (Nat × Nat) (List Nat × RS)) (e : Ending) (w' : World) : Prop :=
  match R with
  | .ok (ks', r') => ∃ v' vn', e = .returned v' ∧ Rr B rb s last r' vn' w' ∧ KRow B w' v' ks' ∧ Off rb vn' v' ∧ LAdv rb vn v w vn' v' w'
  | .error (n, p) => e = Wrong n p ∧ Er rb vn w w'
section
variable {B rb : Nat} {s last : ByteArray} {r : RS} {vn : Qv} {v : Value} {w : World}
theorem Rr.opCell (h : Rr B rb s last r vn w) {p : Nat} (hp : p < r.nds.length) : ∃ vb cap, vn.v = .slice (some ⟨vb, 0, none⟩) r.nds.length cap ∧ r.nds.length ≤ cap ∧ cap ≤ maxLen ∧ w.cell? ⟨rb, 4, none⟩ = some (.slice (some ⟨vb, 0, none⟩) r.nds.length cap) ∧ w.cell? ⟨vb, p * 11, none⟩ = some (.int .u8 (opOf r p)) := by
  obtain ⟨ns, hr⟩ := h
  have hl := hr.len
  rcases hr.row.2 with ⟨_, q⟩ | ⟨b, cap, cur, e, hb, hg, h1, h2, h3, h4⟩
  · omega
  · rw [hl] at e h1
    refine ⟨b, cap, e, h1, h2, by rw [← e]; exact hr.c4, ?_⟩
    have hpn : p < ns.length := by omega
    have hx : ns[p]? = some (ns[p]'hpn) := List.getElem?_eq_getElem hpn
    obtain ⟨d, kv, hd⟩ : ∃ d kv, ns[p]'hpn = (d, kv) := ⟨_, _, rfl⟩
    rw [hd] at hx
    have hf := flat_get hx 0 (by omega)
    have hop : opOf r p = d.op := by
      unfold opOf
      rw [← hr.nds, List.getElem?_map, hx]; rfl
    rw [cell_at hg, hop]
    rw [Nat.add_zero, ← h4, List.getElem?_take] at hf
    split at hf
    · rw [Array.getElem?_toList] at hf; rw [hf]; rfl
    · simp [Nd.cells] at hf
theorem retL_plain (w1 : World) (h : Rr B rb s last r vn w) (hk : ∀ j, v.ownBlock = some j → B ≤ j) (k : Kp w w1) : Below B w w1 := h.below (Adv.kp vn rb k)
set_option maxHeartbeats 4000000 in
set_option maxRecDepth 100000 in
theorem many_none (h : Rr B rb s last r vn w) (hl : r.nds.length < 100000) (t : Tok) {ks : List Nat} (hks : ks.length < 100000) (h0 : ks = []) (hk : KRow B w v ks) (ho : Off rb vn v) :
    Calls Tryz.prog 42 #[.pointer (some ⟨rb, 0, none⟩), t.val, v] w (RetL B rb s last vn v w (manyF s t ks r)) := by
  obtain ⟨kd, c, pl⟩ := t
  obtain ⟨a, cap, rfl, k1, k2⟩ := owns_form hk
  obtain ⟨i9, hi9, z0, z1, z2⟩ := info_parts infoInt
  obtain ⟨R, hR⟩ : ∃ R, manyF s ⟨kd, c, pl⟩ ks r = R := ⟨_, rfl⟩
  rw [hR]
  have hR2 : (if c ≠ 42 then .error (32, pl) else .ok (ks ++ [r.nds.length], { r with nds := r.nds ++ [{ op := 2, c := c }] })) = R := by
    rw [← hR]; unfold manyF
    subst h0; rfl
  have HR : Hid _ := hR2
  obtain ⟨K, hK⟩ : ∃ K, ks.length = K := ⟨_, rfl⟩
  have HK : Hid (ks.length = K) := hK
  have HPb : Hid ((Value.slice a K cap).ownBlock ≠ some w.heap.size) := by rw [← hK]; exact fun e => by have := (hk.lt _ e).2; omega
  have HNe : Hid (w.heap.size ≠ rb ∧ vn.ownBlock ≠ some w.heap.size) := ⟨Nat.ne_of_gt h.lt, h.own (Nat.le_refl _)⟩
  have HA : Hid (Rr B rb s last r vn w ∧ KRow B w (.slice a K cap) ks ∧ Off rb vn (.slice a K cap) ∧ TokBox w.heap.size ⟨kd, c, pl⟩ (w.alloc (.cells #[.int .u8 kd, .int .u8 c, .int .i64 pl] 75))) := ⟨h, by rw [← hK]; exact hk, by rw [← hK]; exact ho, alloc_new w _⟩
  rw [hK] at k1 hks ⊢
  unfold maxLen at k2
  unfold Tok.val
  simp only
  have hK0 : K = 0 := by rw [← hK, h0]; rfl
  subst hK0
  clear h hk ho hK hR hR2 h0
  go_enter Tryz.func42, Tryz.ntmps42
  go_wp2_with fail
  go_quiet (fail)
  have H1 : Hid (Rr B rb s last r vn ((w.alloc (.cells #[.int .u8 kd, .int .u8 c, .int .i64 pl] 75)).drewN nq) ∧ Kp w ((w.alloc (.cells #[.int .u8 kd, .int .u8 c, .int .i64 pl] 75)).drewN nq) ∧ TokBox w.heap.size ⟨kd, c, pl⟩ ((w.alloc (.cells #[.int .u8 kd, .int .u8 c, .int .i64 pl] 75)).drewN nq)) := by
    have k := kp_trans (kp_alloc w (.cells #[.int .u8 kd, .int .u8 c, .int .i64 pl] 75)) (kp_drewN _ nq)
    exact ⟨HA.out.1.kp k, k, HA.out.2.2.2.kp (kp_drewN _ nq)⟩
  change Exit.then _ _ _ _ ((w.alloc (.cells #[.int .u8 kd, .int .u8 c, .int .i64 pl] 75)).drewN nq)
  obtain ⟨w1, hw1⟩ : ∃ w1, (w.alloc (.cells #[.int .u8 kd, .int .u8 c, .int .i64 pl] 75)).drewN nq = w1 := ⟨_, rfl⟩
  rw [hw1] at H1 ⊢
  clear hw1
  obtain ⟨⟨t0, t1, t2⟩, _⟩ := H1.out.2.2.cells
  simp only at t0 t1 t2
  by_cases hc : c = 42
  · have e42 : ((c : Int) != 42) = false := by simp; omega
    have hR3 := HR.out
    rw [if_neg (by omega)] at hR3
    subst hR3
    have HTd : Hid (TokBox w.heap.size ⟨kd, c, pl⟩ w1.drew) := H1.out.2.2.kp (kp_drew w1)
    have HRd : Hid (Rr B rb s last r vn w1.drew ∧ KRow B w1.drew (.slice a 0 cap) ks ∧ Off rb vn (.slice a 0 cap) ∧ Adv rb vn w vn w1.drew) := by
      have k := kp_trans H1.out.2.1 (kp_drew w1)
      exact ⟨HA.out.1.kp k, row_kp HA.out.2.1 k, HA.out.2.2.1, Adv.kp vn rb k⟩
    have rule1 : ∀ w', TokBox w.heap.size ⟨kd, c, pl⟩ w' → w'.cell? ⟨w.heap.size, 1, none⟩ = some (.int .u8 c) := fun _ h => h.cells.1.2.1
    clear HR hc
    go_wp2_with fail
    refine wp_region_noPanic ?_
    refine wp_region_held_drew (S := TokBox w.heap.size ⟨kd, c, pl⟩) (by kernel_rfl) (HTd.out) (fun hHeld => ?_)
    refine takeAt 0 (some 37) ?_ rfl rfl (by kernel_rfl) (by kernel_rfl) (by kernel_rfl) (fun _ _ _ h => h) (Or.inl ⟨by rfl, ?_⟩) hHeld ?_
    rotate_left
    · intro w hSw
      go_simp <;> with_reducible rfl
    try simp only [Act.put, List.setIfInBounds_toArray, List.set_cons_zero, List.set_cons_succ]
    refine takeAt 1 (some 38) ?_ rfl rfl (by kernel_rfl) (by kernel_rfl) (by kernel_rfl) (fun _ _ _ h => h) (Or.inl ⟨by rfl, ?_⟩) hHeld ?_
    rotate_left
    · intro w hSw
      go_simp <;> with_reducible rfl
    try simp only [Act.put, List.setIfInBounds_toArray, List.set_cons_zero, List.set_cons_succ]
    refine takeAt 2 (some 39) ?_ rfl rfl (by kernel_rfl) (by kernel_rfl) (by kernel_rfl) (fun _ _ _ h => h) (Or.inl ⟨by rfl, ?_⟩) hHeld ?_
    rotate_left
    · intro w hSw
      go_simp <;> with_reducible rfl
    try simp only [Act.put, List.setIfInBounds_toArray, List.set_cons_zero, List.set_cons_succ]
    refine takeAt 3 (some 40) ?_ rfl rfl (by kernel_rfl) (by kernel_rfl) (by kernel_rfl) (fun _ _ _ h => h) (Or.inl ⟨by rfl, ?_⟩) hHeld ?_
    rotate_left
    · intro w hSw
      go_simp <;> with_reducible rfl
    try simp only [Act.put, List.setIfInBounds_toArray, List.set_cons_zero, List.set_cons_succ]
    refine takeAt 4 (some 41) ?_ rfl rfl (by kernel_rfl) (by kernel_rfl) (by kernel_rfl) (fun _ _ _ h => h) (Or.inl ⟨by rfl, ?_⟩) hHeld ?_
    rotate_left
    · intro w hSw
      go_simp <;> with_reducible rfl
    try simp only [Act.put, List.setIfInBounds_toArray, List.set_cons_zero, List.set_cons_succ]
    refine takeAt 5 (some 42) ?_ rfl rfl (by kernel_rfl) (by kernel_rfl) (by kernel_rfl) (fun _ _ _ h => h) (Or.inl ⟨by rfl, ?_⟩) hHeld ?_
    rotate_left
    · intro w hSw
      go_simp <;> with_reducible rfl
    try simp only [Act.put, List.setIfInBounds_toArray, List.set_cons_zero, List.set_cons_succ]
    refine callAt 6 43 57 (vals := #[.pointer (some ⟨rb, 4, none⟩), .int .u8 c]) (by kernel_rfl) rfl rfl rfl rfl (by simp [Act.eval]) Tryz.func57 (by kernel_rfl) (by kernel_rfl) ?_
    refine Calls.mono (rplain HRd.out.1 c hl) ?_
    rintro e w2 ⟨rfl, q⟩
    obtain ⟨vn2, q1, q2⟩ := q
    obtain ⟨q3, q4⟩ := row_adv HRd.out.2.1 HRd.out.2.2.1 q2
    have H2 : Hid (Rr B rb s last { r with nds := r.nds ++ [{ op := 2, c := c }] } vn2 w2 ∧ KRow B w2 (.slice a 0 cap) ks ∧ Off rb vn2 (.slice a 0 cap) ∧ Adv rb vn w vn2 w2 ∧ TokBox w.heap.size ⟨kd, c, pl⟩ w2) := ⟨q1, q3, q4, AdvX.trans HRd.out.2.2.2 q2, HTd.out.adv q2 HNe.out.1 HNe.out.2⟩
    clear q1 q2 q3 q4
    refine ⟨_, rfl, H2.out.2.2.2.2, fun hHeld => ?_⟩
    try simp only [Act.put, List.setIfInBounds_toArray, List.set_cons_zero, List.set_cons_succ]
    have HT3 : Hid (TokBox w.heap.size ⟨kd, c, pl⟩ (w2.alloc (.cells #[.int .i64 r.nds.length] 3))) := H2.out.2.2.2.2.kp (kp_alloc _ _)
    refine wpAnyH_ready (rs := [7]) (by kernel_rfl) (by simp) ?_
    refine AllReadyH.cons rfl (fun K hK => ?_) AllReadyH.nil
    go_simp
    refine hK.out _ _ (HT3.out) (fun hHeld => ?_)
    clear hK K
    try simp only [Act.put, List.setIfInBounds_toArray, List.set_cons_zero, List.set_cons_succ]
    have HOW : Hid ((w2.alloc (.cells #[.int .i64 r.nds.length] 3)).ownsRow B 3 1 (.slice a 0 cap) 0 (nums ks)) := by have := row_kp H2.out.2.1 (kp_alloc w2 (.cells #[.int .i64 r.nds.length] 3)); rw [HK.out] at this; exact this
    have HNEW : Hid (∀ j u, ([.int .i64 r.nds.length] : List Value)[j]? = some u → (w2.alloc (.cells #[.int .i64 r.nds.length] 3)).cell? ((⟨w2.heap.size, 0, none⟩ : Addr).add j) = some u) := by
      intro j u hj
      rw [Addr.add_lit, cell_at (alloc_new w2 _), Nat.zero_add, ← hj]; exact List.getElem?_toArray
    have HONE : Hid (∀ u ∈ ([.int .i64 r.nds.length] : List Value), u.oneCell' = true) := by intro u hu; simp only [List.mem_singleton] at hu; subst hu; rfl
    have HSZ : Hid ((w2.alloc (.cells #[.int .i64 r.nds.length] 3)).heap.size = w2.heap.size + 1) := alloc_size _ _
    have HBW : Hid (B ≤ (w2.alloc (.cells #[.int .i64 r.nds.length] 3)).heap.size) := by have := H2.out.1.hB; have := HSZ.out; show B ≤ _; omega
    refine wpAnyH_ready (rs := [8]) (by kernel_rfl) (by simp) ?_
    refine AllReadyH.cons rfl (fun K1 hK => ?_) AllReadyH.nil
    refine step_append_lies _ rfl (.tmp 37) (.tmp 44) 71 rfl B 3 i9 _ 1 8 Tryz.underlying71 hi9 z0 z1 z2 rfl (by decide) (.slice a 0 cap) 0 (nums ks) rfl HOW.out ⟨w2.heap.size, 0, none⟩ 1 1 [.int .i64 r.nds.length] rfl rfl HNEW.out HONE.out (by omega) (by unfold maxLen; omega) (by omega) HBW.out (w2.heap.size + 1) HSZ.out ?_
    intro g cp w3 hown hgrow hat hlt
    have HF : Hid _ := H2.out.1.snoc (x := r.nds.length) HK.out H2.out.2.1 H2.out.2.2.1 (kp_alloc w2 (.cells #[.int .i64 r.nds.length] 3)) hown hgrow (by rw [HSZ.out]; exact hat)
    have HT4 : Hid (TokBox w.heap.size ⟨kd, c, pl⟩ w3) := by
      have h1 := HT3.out
      unfold TokBox at h1 ⊢
      rw [hgrow.block w.heap.size (Array.getElem?_eq_some_iff.1 h1).1 (fun e => HPb.out e.symm)]; exact h1
    clear hown hgrow hat hlt
    change K1 (Act.put _ (some 45) (.slice (some ⟨g, 0, none⟩) (0 + 1) cp)) w3
    refine hK.out _ _ HT4.out (fun hHeld => ?_)
    clear hK K1
    try simp only [Act.put, List.setIfInBounds_toArray, List.set_cons_zero, List.set_cons_succ]
    refine takeAt 9 (some 6) ?_ rfl rfl (by kernel_rfl) (by kernel_rfl) (by kernel_rfl) (fun _ _ _ h => h) (Or.inl ⟨by rfl, ?_⟩) hHeld ?_
    rotate_left
    · intro w hSw
      go_simp <;> with_reducible rfl
    try simp only [Act.put, List.setIfInBounds_toArray, List.set_cons_zero, List.set_cons_succ]
    refine wpAnyH_done (by kernel_rfl) ?_ _
    refine NoPanic.normal ?_
    go_wp2_with fail
    go_ret
    exact ⟨.slice (some ⟨g, 0, none⟩) (0 + 1) cp, vn2, by rfl, HF.out.1, HF.out.2.1, HF.out.2.2.1, (LAdv.of H2.out.2.2.2.1).trans HF.out.2.2.2⟩
  · have e42 : ((c : Int) != 42) = true := by simp; omega
    have hR3 := HR.out
    rw [if_pos hc] at hR3
    subst hR3
    clear HR hc
    go_wp2_with fail
    exact ⟨rfl, rfl, HA.out.1.er (Adv.kp vn rb H1.out.2.1)⟩
set_option maxHeartbeats 4000000 in
set_option maxRecDepth 100000 in
theorem many_star (h : Rr B rb s last r vn w) (hl : r.nds.length < 100000) (t : Tok) {ks : List Nat} (hks : ks.length < 100000) {p : Nat} (hp : ks.getLast? = some p) (hpn : p < r.nds.length) (hrep : repB (opOf r p) = false) (hk : KRow B w v ks) (ho : Off rb vn v) :
    Calls Tryz.prog 42 #[.pointer (some ⟨rb, 0, none⟩), t.val, v] w (RetL B rb s last vn v w (manyF s t ks r)) := by
  obtain ⟨kd, c, pl⟩ := t
  obtain ⟨a, cap, rfl, k1, k2⟩ := owns_form hk
  obtain ⟨i9, hi9, z0, z1, z2⟩ := info_parts infoInt
  obtain ⟨R, hR⟩ : ∃ R, manyF s ⟨kd, c, pl⟩ ks r = R := ⟨_, rfl⟩
  rw [hR]
  have hR2 : (if c ≠ 42 then .error (32, pl) else .ok (ks ++ [r.nds.length], { r with nds := r.nds ++ [{ op := 2, c := c }] })) = R := by
    rw [← hR]; unfold manyF
    rw [hp]; simp only [hrep, Bool.false_eq_true, if_false]
  have HR : Hid _ := hR2
  obtain ⟨K, hK⟩ : ∃ K, ks.length = K := ⟨_, rfl⟩
  have HK : Hid (ks.length = K) := hK
  have HPb : Hid ((Value.slice a K cap).ownBlock ≠ some w.heap.size) := by rw [← hK]; exact fun e => by have := (hk.lt _ e).2; omega
  have HNe : Hid (w.heap.size ≠ rb ∧ vn.ownBlock ≠ some w.heap.size) := ⟨Nat.ne_of_gt h.lt, h.own (Nat.le_refl _)⟩
  have HA : Hid (Rr B rb s last r vn w ∧ KRow B w (.slice a K cap) ks ∧ Off rb vn (.slice a K cap) ∧ TokBox w.heap.size ⟨kd, c, pl⟩ (w.alloc (.cells #[.int .u8 kd, .int .u8 c, .int .i64 pl] 75))) := ⟨h, by rw [← hK]; exact hk, by rw [← hK]; exact ho, alloc_new w _⟩
  rw [hK] at k1 hks ⊢
  unfold maxLen at k2
  unfold Tok.val
  simp only
  have hK1 : 0 < K := by rw [← hK]; cases ks with | nil => simp at hp | cons _ _ => simp
  have hpc : ks[K - 1]? = some p := by rw [← hK, ← List.getLast?_eq_getElem?]; exact hp
  have hk' := HA.out.2.1
  obtain ⟨pb, rfl, pc, _⟩ := krow_cell (v := .slice a K cap) (row_kp hk' (kp_alloc w (.cells #[.int .u8 kd, .int .u8 c, .int .i64 pl] 75))) hpc
  obtain ⟨vb, vc, _, vl, vm, c4, oc⟩ := (h.kp (kp_alloc w (.cells #[.int .u8 kd, .int .u8 c, .int .i64 pl] 75))).opCell hpn
  have hKi : (K : Int) - 1 = ((K - 1 : Nat) : Int) := by omega
  obtain ⟨J, hJ⟩ : ∃ J, K - 1 = J := ⟨_, rfl⟩
  rw [hJ] at hKi pc
  have hJK : J < K := by omega
  have hJ0 : decide ((J : Int) < 0) = false := decide_eq_false (by omega)
  obtain ⟨N, hN⟩ : ∃ N, r.nds.length = N := ⟨_, rfl⟩
  have HN : Hid (r.nds.length = N) := hN
  rw [hN] at vl c4 hpn
  unfold maxLen at vm
  obtain ⟨op, hop⟩ : ∃ op, opOf r p = op := ⟨_, rfl⟩
  rw [hop] at oc hrep
  have HRe := fun (x : World) => repeats_any op x
  rw [hrep] at HRe
  have HRe' : Hid _ := HRe
  clear h hk ho hK hR hR2 hp hrep hpc hk' hJ hN hop HRe
  go_enter Tryz.func42, Tryz.ntmps42
  go_wp2_with fail
  go_quiet ((go_at_call 46; exact Calls.quiet_of_same (HRe'.out _)))
  have H1 : Hid (Rr B rb s last r vn ((w.alloc (.cells #[.int .u8 kd, .int .u8 c, .int .i64 pl] 75)).drewN nq) ∧ Kp w ((w.alloc (.cells #[.int .u8 kd, .int .u8 c, .int .i64 pl] 75)).drewN nq) ∧ TokBox w.heap.size ⟨kd, c, pl⟩ ((w.alloc (.cells #[.int .u8 kd, .int .u8 c, .int .i64 pl] 75)).drewN nq)) := by
    have k := kp_trans (kp_alloc w (.cells #[.int .u8 kd, .int .u8 c, .int .i64 pl] 75)) (kp_drewN _ nq)
    exact ⟨HA.out.1.kp k, k, HA.out.2.2.2.kp (kp_drewN _ nq)⟩
  change Exit.then _ _ _ _ ((w.alloc (.cells #[.int .u8 kd, .int .u8 c, .int .i64 pl] 75)).drewN nq)
  obtain ⟨w1, hw1⟩ : ∃ w1, (w.alloc (.cells #[.int .u8 kd, .int .u8 c, .int .i64 pl] 75)).drewN nq = w1 := ⟨_, rfl⟩
  rw [hw1] at H1 ⊢
  clear hw1
  obtain ⟨⟨t0, t1, t2⟩, _⟩ := H1.out.2.2.cells
  simp only at t0 t1 t2
  by_cases hc : c = 42
  · have e42 : ((c : Int) != 42) = false := by simp; omega
    have hR3 := HR.out
    rw [if_neg (by omega)] at hR3
    subst hR3
    have HTd : Hid (TokBox w.heap.size ⟨kd, c, pl⟩ w1.drew) := H1.out.2.2.kp (kp_drew w1)
    have HRd : Hid (Rr B rb s last r vn w1.drew ∧ KRow B w1.drew (.slice (some ⟨pb, 0, none⟩) K cap) ks ∧ Off rb vn (.slice (some ⟨pb, 0, none⟩) K cap) ∧ Adv rb vn w vn w1.drew) := by
      have k := kp_trans H1.out.2.1 (kp_drew w1)
      exact ⟨HA.out.1.kp k, row_kp HA.out.2.1 k, HA.out.2.2.1, Adv.kp vn rb k⟩
    have rule1 : ∀ w', TokBox w.heap.size ⟨kd, c, pl⟩ w' → w'.cell? ⟨w.heap.size, 1, none⟩ = some (.int .u8 c) := fun _ h => h.cells.1.2.1
    clear HR hc
    go_wp2_with fail
    refine wp_region_noPanic ?_
    refine wp_region_held_drew (S := TokBox w.heap.size ⟨kd, c, pl⟩) (by kernel_rfl) (HTd.out) (fun hHeld => ?_)
    refine takeAt 0 (some 37) ?_ rfl rfl (by kernel_rfl) (by kernel_rfl) (by kernel_rfl) (fun _ _ _ h => h) (Or.inl ⟨by rfl, ?_⟩) hHeld ?_
    rotate_left
    · intro w hSw
      go_simp <;> with_reducible rfl
    try simp only [Act.put, List.setIfInBounds_toArray, List.set_cons_zero, List.set_cons_succ]
    refine takeAt 1 (some 38) ?_ rfl rfl (by kernel_rfl) (by kernel_rfl) (by kernel_rfl) (fun _ _ _ h => h) (Or.inl ⟨by rfl, ?_⟩) hHeld ?_
    rotate_left
    · intro w hSw
      go_simp <;> with_reducible rfl
    try simp only [Act.put, List.setIfInBounds_toArray, List.set_cons_zero, List.set_cons_succ]
    refine takeAt 2 (some 39) ?_ rfl rfl (by kernel_rfl) (by kernel_rfl) (by kernel_rfl) (fun _ _ _ h => h) (Or.inl ⟨by rfl, ?_⟩) hHeld ?_
    rotate_left
    · intro w hSw
      go_simp <;> with_reducible rfl
    try simp only [Act.put, List.setIfInBounds_toArray, List.set_cons_zero, List.set_cons_succ]
    refine takeAt 3 (some 40) ?_ rfl rfl (by kernel_rfl) (by kernel_rfl) (by kernel_rfl) (fun _ _ _ h => h) (Or.inl ⟨by rfl, ?_⟩) hHeld ?_
    rotate_left
    · intro w hSw
      go_simp <;> with_reducible rfl
    try simp only [Act.put, List.setIfInBounds_toArray, List.set_cons_zero, List.set_cons_succ]
    refine takeAt 4 (some 41) ?_ rfl rfl (by kernel_rfl) (by kernel_rfl) (by kernel_rfl) (fun _ _ _ h => h) (Or.inl ⟨by rfl, ?_⟩) hHeld ?_
    rotate_left
    · intro w hSw
      go_simp <;> with_reducible rfl
    try simp only [Act.put, List.setIfInBounds_toArray, List.set_cons_zero, List.set_cons_succ]
    refine takeAt 5 (some 42) ?_ rfl rfl (by kernel_rfl) (by kernel_rfl) (by kernel_rfl) (fun _ _ _ h => h) (Or.inl ⟨by rfl, ?_⟩) hHeld ?_
    rotate_left
    · intro w hSw
      go_simp <;> with_reducible rfl
    try simp only [Act.put, List.setIfInBounds_toArray, List.set_cons_zero, List.set_cons_succ]
    refine callAt 6 43 57 (vals := #[.pointer (some ⟨rb, 4, none⟩), .int .u8 c]) (by kernel_rfl) rfl rfl rfl rfl (by simp [Act.eval]) Tryz.func57 (by kernel_rfl) (by kernel_rfl) ?_
    refine Calls.mono (rplain HRd.out.1 c hl) ?_
    rintro e w2 ⟨rfl, q⟩
    obtain ⟨vn2, q1, q2⟩ := q
    obtain ⟨q3, q4⟩ := row_adv HRd.out.2.1 HRd.out.2.2.1 q2
    have H2 : Hid (Rr B rb s last { r with nds := r.nds ++ [{ op := 2, c := c }] } vn2 w2 ∧ KRow B w2 (.slice (some ⟨pb, 0, none⟩) K cap) ks ∧ Off rb vn2 (.slice (some ⟨pb, 0, none⟩) K cap) ∧ Adv rb vn w vn2 w2 ∧ TokBox w.heap.size ⟨kd, c, pl⟩ w2) := ⟨q1, q3, q4, AdvX.trans HRd.out.2.2.2 q2, HTd.out.adv q2 HNe.out.1 HNe.out.2⟩
    clear q1 q2 q3 q4
    refine ⟨_, rfl, H2.out.2.2.2.2, fun hHeld => ?_⟩
    try simp only [Act.put, List.setIfInBounds_toArray, List.set_cons_zero, List.set_cons_succ]
    have HT3 : Hid (TokBox w.heap.size ⟨kd, c, pl⟩ (w2.alloc (.cells #[.int .i64 r.nds.length] 3))) := H2.out.2.2.2.2.kp (kp_alloc _ _)
    refine wpAnyH_ready (rs := [7]) (by kernel_rfl) (by simp) ?_
    refine AllReadyH.cons rfl (fun K hK => ?_) AllReadyH.nil
    go_simp
    refine hK.out _ _ (HT3.out) (fun hHeld => ?_)
    clear hK K
    try simp only [Act.put, List.setIfInBounds_toArray, List.set_cons_zero, List.set_cons_succ]
    have HOW : Hid ((w2.alloc (.cells #[.int .i64 r.nds.length] 3)).ownsRow B 3 1 (.slice (some ⟨pb, 0, none⟩) K cap) K (nums ks)) := by have := row_kp H2.out.2.1 (kp_alloc w2 (.cells #[.int .i64 r.nds.length] 3)); rw [HK.out] at this; exact this
    have HNEW : Hid (∀ j u, ([.int .i64 r.nds.length] : List Value)[j]? = some u → (w2.alloc (.cells #[.int .i64 r.nds.length] 3)).cell? ((⟨w2.heap.size, 0, none⟩ : Addr).add j) = some u) := by
      intro j u hj
      rw [Addr.add_lit, cell_at (alloc_new w2 _), Nat.zero_add, ← hj]; exact List.getElem?_toArray
    have HONE : Hid (∀ u ∈ ([.int .i64 r.nds.length] : List Value), u.oneCell' = true) := by intro u hu; simp only [List.mem_singleton] at hu; subst hu; rfl
    have HSZ : Hid ((w2.alloc (.cells #[.int .i64 r.nds.length] 3)).heap.size = w2.heap.size + 1) := alloc_size _ _
    have HBW : Hid (B ≤ (w2.alloc (.cells #[.int .i64 r.nds.length] 3)).heap.size) := by have := H2.out.1.hB; have := HSZ.out; show B ≤ _; omega
    refine wpAnyH_ready (rs := [8]) (by kernel_rfl) (by simp) ?_
    refine AllReadyH.cons rfl (fun K1 hK => ?_) AllReadyH.nil
    refine step_append_lies _ rfl (.tmp 37) (.tmp 44) 71 rfl B 3 i9 _ 1 8 Tryz.underlying71 hi9 z0 z1 z2 rfl (by decide) (.slice (some ⟨pb, 0, none⟩) K cap) K (nums ks) rfl HOW.out ⟨w2.heap.size, 0, none⟩ 1 1 [.int .i64 r.nds.length] rfl rfl HNEW.out HONE.out (by omega) (by unfold maxLen; omega) (by omega) HBW.out (w2.heap.size + 1) HSZ.out ?_
    intro g cp w3 hown hgrow hat hlt
    have HF : Hid _ := H2.out.1.snoc (x := r.nds.length) HK.out H2.out.2.1 H2.out.2.2.1 (kp_alloc w2 (.cells #[.int .i64 r.nds.length] 3)) hown hgrow (by rw [HSZ.out]; exact hat)
    have HT4 : Hid (TokBox w.heap.size ⟨kd, c, pl⟩ w3) := by
      have h1 := HT3.out
      unfold TokBox at h1 ⊢
      rw [hgrow.block w.heap.size (Array.getElem?_eq_some_iff.1 h1).1 (fun e => HPb.out e.symm)]; exact h1
    clear hown hgrow hat hlt
    change K1 (Act.put _ (some 45) (.slice (some ⟨g, 0, none⟩) (K + 1) cp)) w3
    refine hK.out _ _ HT4.out (fun hHeld => ?_)
    clear hK K1
    try simp only [Act.put, List.setIfInBounds_toArray, List.set_cons_zero, List.set_cons_succ]
    refine takeAt 9 (some 6) ?_ rfl rfl (by kernel_rfl) (by kernel_rfl) (by kernel_rfl) (fun _ _ _ h => h) (Or.inl ⟨by rfl, ?_⟩) hHeld ?_
    rotate_left
    · intro w hSw
      go_simp <;> with_reducible rfl
    try simp only [Act.put, List.setIfInBounds_toArray, List.set_cons_zero, List.set_cons_succ]
    refine wpAnyH_done (by kernel_rfl) ?_ _
    refine NoPanic.normal ?_
    go_wp2_with fail
    go_ret
    exact ⟨.slice (some ⟨g, 0, none⟩) (K + 1) cp, vn2, by rfl, HF.out.1, HF.out.2.1, HF.out.2.2.1, (LAdv.of H2.out.2.2.2.1).trans HF.out.2.2.2⟩
  · have e42 : ((c : Int) != 42) = true := by simp; omega
    have hR3 := HR.out
    rw [if_pos hc] at hR3
    subst hR3
    clear HR hc
    go_wp2_with fail
    exact ⟨rfl, rfl, HA.out.1.er (Adv.kp vn rb H1.out.2.1)⟩
set_option maxHeartbeats 4000000 in
set_option maxRecDepth 100000 in
theorem many_rep (h : Rr B rb s last r vn w) (hs : s.size ≤ 400) (ha : r.k ≤ s.size) (hl : r.nds.length < 100000) (t : Tok) {ks : List Nat} (hks : ks.length < 100000) {p : Nat} (hp : ks.getLast? = some p) (hpn : p < r.nds.length) (hrep : repB (opOf r p) = true) (hk : KRow B w v ks) (ho : Off rb vn v) :
    Calls Tryz.prog 42 #[.pointer (some ⟨rb, 0, none⟩), t.val, v] w (RetL B rb s last vn v w (manyF s t ks r)) := by
  obtain ⟨a, cap, rfl, k1, k2⟩ := owns_form hk
  obtain ⟨R, hR⟩ : ∃ R, manyF s t ks r = R := ⟨_, rfl⟩
  rw [hR]
  have hR2 : (match timesF s t r with | .error e => .error e | .ok (d, r1) => .ok (ks.set (ks.length - 1) r1.nds.length, { r1 with nds := r1.nds ++ [{ d with kids := [p] }] })) = R := by
    rw [← hR]; unfold manyF; rw [hp]; simp only [hrep, if_true]
  have HR : Hid _ := hR2
  obtain ⟨K, hK⟩ : ∃ K, ks.length = K := ⟨_, rfl⟩
  have HK : Hid (ks.length = K) := hK
  have hK1 : 0 < K := by rw [← hK]; cases ks with | nil => simp at hp | cons _ _ => simp
  have hpc : ks[K - 1]? = some p := by rw [← hK, ← List.getLast?_eq_getElem?]; exact hp
  have HPb : Hid ((Value.slice a K cap).ownBlock ≠ some w.heap.size) := by rw [← hK]; exact fun e => by have := (hk.lt _ e).2; omega
  have HNe : Hid (w.heap.size ≠ rb ∧ vn.ownBlock ≠ some w.heap.size) := ⟨Nat.ne_of_gt h.lt, h.own (Nat.le_refl _)⟩
  have HA : Hid (Rr B rb s last r vn w ∧ KRow B w (.slice a K cap) ks ∧ Off rb vn (.slice a K cap) ∧ TokBox w.heap.size t (w.alloc (.cells #[.int .u8 t.kd, .int .u8 t.c, .int .i64 t.pl] 75))) := ⟨h, by rw [← hK]; exact hk, by rw [← hK]; exact ho, alloc_new w _⟩
  rw [hK] at k1 hks ⊢
  unfold maxLen at k2
  have hk' := HA.out.2.1
  obtain ⟨pb, rfl, pc, _⟩ := krow_cell (v := .slice a K cap) (row_kp hk' (kp_alloc w (.cells #[.int .u8 t.kd, .int .u8 t.c, .int .i64 t.pl] 75))) hpc
  obtain ⟨vb, vc, _, vl, vm, c4, oc⟩ := (h.kp (kp_alloc w (.cells #[.int .u8 t.kd, .int .u8 t.c, .int .i64 t.pl] 75))).opCell hpn
  have HPC : Hid (∀ w', KRow B w' (.slice (some ⟨pb, 0, none⟩) K cap) ks → w'.cell? ⟨pb, K - 1, none⟩ = some (.int .i64 p) ∧ w'.frozen? ⟨pb, K - 1, none⟩ = false) := fun w' hw' => by
    obtain ⟨pb', e, q1, q2⟩ := krow_cell (v := .slice (some ⟨pb, 0, none⟩) K cap) hw' hpc
    injection e with e
    injection e with e _ _
    subst e
    exact ⟨q1, q2⟩
  have hKi : (K : Int) - 1 = ((K - 1 : Nat) : Int) := by omega
  obtain ⟨J, hJ⟩ : ∃ J, K - 1 = J := ⟨_, rfl⟩
  have HJ : Hid (ks.length - 1 = J ∧ J < ks.length) := ⟨by rw [hK]; exact hJ, by omega⟩
  rw [hJ] at hKi pc HPC
  have hJK : J < K := by omega
  have hJ0 : decide ((J : Int) < 0) = false := decide_eq_false (by omega)
  obtain ⟨N, hN⟩ : ∃ N, r.nds.length = N := ⟨_, rfl⟩
  rw [hN] at vl c4 hpn
  unfold maxLen at vm
  obtain ⟨op, hop⟩ : ∃ op, opOf r p = op := ⟨_, rfl⟩
  rw [hop] at oc hrep
  have HRe := fun (x : World) => repeats_any op x
  rw [hrep] at HRe
  have HRe' : Hid _ := HRe
  have HTi : Hid (∀ x, Rr B rb s last r vn x → Calls Tryz.prog 58 #[.pointer (some ⟨rb, 0, none⟩), t.val] x (TimP B rb s last vn x (timesF s t r))) := fun x hx => times_any hx hs ha t
  obtain ⟨kd, c, pl⟩ := t
  unfold Tok.val at HTi ⊢
  simp only at HTi HR ⊢
  clear h hk ho hK hR hR2 hp hrep hpc hk' hJ hop HRe
  go_enter Tryz.func42, Tryz.ntmps42
  go_wp2_with fail
  go_quiet ((go_at_call 46; exact Calls.quiet_of_same (HRe'.out _)))
  have H1 : Hid (Rr B rb s last r vn ((w.alloc (.cells #[.int .u8 kd, .int .u8 c, .int .i64 pl] 75)).drewN nq) ∧ Kp w ((w.alloc (.cells #[.int .u8 kd, .int .u8 c, .int .i64 pl] 75)).drewN nq) ∧ TokBox w.heap.size ⟨kd, c, pl⟩ ((w.alloc (.cells #[.int .u8 kd, .int .u8 c, .int .i64 pl] 75)).drewN nq)) := by
    have k := kp_trans (kp_alloc w (.cells #[.int .u8 kd, .int .u8 c, .int .i64 pl] 75)) (kp_drewN _ nq)
    exact ⟨HA.out.1.kp k, k, HA.out.2.2.2.kp (kp_drewN _ nq)⟩
  change Exit.then _ _ _ _ ((w.alloc (.cells #[.int .u8 kd, .int .u8 c, .int .i64 pl] 75)).drewN nq)
  obtain ⟨w1, hw1⟩ : ∃ w1, (w.alloc (.cells #[.int .u8 kd, .int .u8 c, .int .i64 pl] 75)).drewN nq = w1 := ⟨_, rfl⟩
  rw [hw1] at H1 ⊢
  clear hw1 pc c4 oc
  obtain ⟨⟨t0, t1, t2⟩, _⟩ := H1.out.2.2.cells
  simp only at t0 t1 t2
  have HT1 : Hid _ := HTi.out w1 H1.out.1
  clear HTi
  cases htm : timesF s ⟨kd, c, pl⟩ r with
  | error na =>
    obtain ⟨n, a⟩ := na
    have hR3 := HR.out
    rw [htm] at hR3 HT1
    simp only at hR3
    subst hR3
    clear HR htm
    go_wp2_with fail
    refine Calls.mono HT1.out ?_
    rintro e w2 ⟨rfl, q⟩
    have HQ : Hid (Er rb vn w w2) := HA.out.1.ert (Adv.kp vn rb H1.out.2.1) q
    clear q
    unfold Wrong
    go_wp2_with fail
    exact ⟨rfl, rfl, HQ.out⟩
  | ok dr =>
    obtain ⟨d, r1⟩ := dr
    have HNd : Hid (r1.nds = r.nds) := timesF_nds htm
    have hR3 := HR.out
    rw [htm] at hR3 HT1
    simp only at hR3
    subst hR3
    clear HR htm
    have HT1' : Hid (Calls Tryz.prog 58 #[.pointer (some ⟨rb, 0, none⟩), .agg #[.int .u8 kd, .int .u8 c, .int .i64 pl]] w1 fun e w' => e = .returned (d.val (.slice none 0 0)) ∧ Rr B rb s last r1 vn w' ∧ Adv rb vn w1 vn w') := HT1.out
    unfold Nd.val at HT1'
    clear HT1
    go_wp2_with fail
    refine Calls.mono HT1'.out ?_
    rintro e w2 ⟨rfl, q1, q2⟩
    obtain ⟨q3, q4⟩ := row_adv (row_kp HA.out.2.1 H1.out.2.1) HA.out.2.2.1 q2
    have H2 : Hid (Rr B rb s last r1 vn w2 ∧ Adv rb vn w vn w2 ∧ KRow B w2 (.slice (some ⟨pb, 0, none⟩) K cap) ks ∧ Off rb vn (.slice (some ⟨pb, 0, none⟩) K cap)) := ⟨q1, (Adv.kp vn rb H1.out.2.1).trans q2, q3, q4⟩
    clear q1 q2 q3 q4 HT1' H1 t0 t1 t2
    obtain ⟨pc, pf⟩ := HPC.out _ (row_kp H2.out.2.2.1 (kp_alloc w2 (.cells #[.int .u8 d.op, .int .u8 d.c, .int .u64 d.set.a, .int .u64 d.set.b, .int .u64 d.set.c, .int .u64 d.set.d, .int .i64 d.mn, .int .i64 d.mx, .bool d.lz, .int .i64 d.n, .slice none 0 0] 73)))
    have HW5 : Hid (Rr B rb s last r1 vn ((w2.alloc (nodeObj d (.slice (some ⟨w2.heap.size + 1, 0, none⟩) 1 1))).alloc (.cells #[.int .i64 p] 3)).drew ∧ Kp w2 ((w2.alloc (nodeObj d (.slice (some ⟨w2.heap.size + 1, 0, none⟩) 1 1))).alloc (.cells #[.int .i64 p] 3)).drew ∧ NdBox w2.heap.size d (.slice (some ⟨w2.heap.size + 1, 0, none⟩) 1 1) ((w2.alloc (nodeObj d (.slice (some ⟨w2.heap.size + 1, 0, none⟩) 1 1))).alloc (.cells #[.int .i64 p] 3)).drew ∧ KRow B ((w2.alloc (nodeObj d (.slice (some ⟨w2.heap.size + 1, 0, none⟩) 1 1))).alloc (.cells #[.int .i64 p] 3)).drew (.slice (some ⟨w2.heap.size + 1, 0, none⟩) 1 1) [p] ∧ OffK rb vn (.slice (some ⟨w2.heap.size + 1, 0, none⟩) 1 1)) := by
      have k : Kp w2 ((w2.alloc (nodeObj d (.slice (some ⟨w2.heap.size + 1, 0, none⟩) 1 1))).alloc (.cells #[.int .i64 p] 3)).drew := kp_trans (kp_trans (kp_alloc _ _) (kp_alloc _ _)) (kp_drew _)
      have hB2 := H2.out.1.hB
      have e1 : (w2.alloc (nodeObj d (.slice (some ⟨w2.heap.size + 1, 0, none⟩) 1 1))).heap.size = w2.heap.size + 1 := alloc_size _ _
      refine ⟨H2.out.1.kp k, k, ?_, ?_, fun j hj => ?_⟩
      · exact NdBox.kp (w := w2.alloc (nodeObj d (.slice (some ⟨w2.heap.size + 1, 0, none⟩) 1 1))) (alloc_new w2 _) (kp_trans (kp_alloc _ _) (kp_drew _))
      · refine ⟨rfl, .inr ⟨w2.heap.size + 1, 1, #[.int .i64 p], rfl, by omega, ?_, by simp, by simp [maxLen], rfl, rfl⟩⟩
        have hz := alloc_new (w2.alloc (nodeObj d (.slice (some ⟨w2.heap.size + 1, 0, none⟩) 1 1))) (.cells #[.int .i64 p] 3)
        rw [e1] at hz
        rw [drew_heap]; exact hz
      · simp only [Value.ownBlock, Option.some.injEq] at hj
        rw [← hj]; exact (H2.out.1.new (by omega)).1
    have HAd : Hid (Calls Tryz.prog 45 #[.pointer (some ⟨rb, 4, none⟩), .agg #[.int .u8 d.op, .int .u8 d.c, .int .u64 d.set.a, .int .u64 d.set.b, .int .u64 d.set.c, .int .u64 d.set.d, .int .i64 d.mn, .int .i64 d.mx, .bool d.lz, .int .i64 d.n, .slice (some ⟨w2.heap.size + 1, 0, none⟩) 1 1]] ((w2.alloc (nodeObj d (.slice (some ⟨w2.heap.size + 1, 0, none⟩) 1 1))).alloc (.cells #[.int .i64 p] 3)).drew fun e w' => e = .returned (.int .i64 r1.nds.length) ∧ ∃ vn', Rr B rb s last { r1 with nds := r1.nds ++ [{ d with kids := [p] }] } vn' w' ∧ AdvX (some (w2.heap.size + 1)) rb vn ((w2.alloc (nodeObj d (.slice (some ⟨w2.heap.size + 1, 0, none⟩) 1 1))).alloc (.cells #[.int .i64 p] 3)).drew vn' w') := by
      have hB2 := HW5.out.1.hB
      obtain ⟨ns, hr⟩ := HW5.out.1
      refine (add_any hr { d with kids := [p] } HW5.out.2.2.2.1 HW5.out.2.2.2.2 (by rw [HNd.out]; exact hl) hB2).mono ?_
      rintro e w' ⟨rfl, vn', q1, q2⟩
      exact ⟨rfl, vn', ⟨_, q1⟩, q2⟩
    have HNn : Hid ((w2.heap.size ≠ rb ∧ vn.ownBlock ≠ some w2.heap.size) ∧ pb < w2.heap.size) := ⟨(H2.out.1.new (Nat.le_refl _)).1, (H2.out.2.2.1.lt pb rfl).2⟩
    have rn0 : ∀ w', NdBox w2.heap.size d (.slice (some ⟨w2.heap.size + 1, 0, none⟩) 1 1) w' → w'.cell? ⟨w2.heap.size, 0, none⟩ = some (.int .u8 d.op) := fun _ h => h.cells.1
    have rn1 : ∀ w', NdBox w2.heap.size d (.slice (some ⟨w2.heap.size + 1, 0, none⟩) 1 1) w' → w'.cell? ⟨w2.heap.size, 1, none⟩ = some (.int .u8 d.c) := fun _ h => h.cells.2.1
    have rn2 : ∀ w', NdBox w2.heap.size d (.slice (some ⟨w2.heap.size + 1, 0, none⟩) 1 1) w' → w'.cell? ⟨w2.heap.size, 2, none⟩ = some (.int .u64 d.set.a) := fun _ h => h.cells.2.2.1
    have rn3 : ∀ w', NdBox w2.heap.size d (.slice (some ⟨w2.heap.size + 1, 0, none⟩) 1 1) w' → w'.cell? ⟨w2.heap.size, 3, none⟩ = some (.int .u64 d.set.b) := fun _ h => h.cells.2.2.2.1
    have rn4 : ∀ w', NdBox w2.heap.size d (.slice (some ⟨w2.heap.size + 1, 0, none⟩) 1 1) w' → w'.cell? ⟨w2.heap.size, 4, none⟩ = some (.int .u64 d.set.c) := fun _ h => h.cells.2.2.2.2.1
    have rn5 : ∀ w', NdBox w2.heap.size d (.slice (some ⟨w2.heap.size + 1, 0, none⟩) 1 1) w' → w'.cell? ⟨w2.heap.size, 5, none⟩ = some (.int .u64 d.set.d) := fun _ h => h.cells.2.2.2.2.2.1
    have rn6 : ∀ w', NdBox w2.heap.size d (.slice (some ⟨w2.heap.size + 1, 0, none⟩) 1 1) w' → w'.cell? ⟨w2.heap.size, 6, none⟩ = some (.int .i64 d.mn) := fun _ h => h.c6
    have rn7 : ∀ w', NdBox w2.heap.size d (.slice (some ⟨w2.heap.size + 1, 0, none⟩) 1 1) w' → w'.cell? ⟨w2.heap.size, 7, none⟩ = some (.int .i64 d.mx) := fun _ h => h.c7
    have rn8 : ∀ w', NdBox w2.heap.size d (.slice (some ⟨w2.heap.size + 1, 0, none⟩) 1 1) w' → w'.cell? ⟨w2.heap.size, 8, none⟩ = some (.bool d.lz) := fun _ h => h.c8
    have rn9 : ∀ w', NdBox w2.heap.size d (.slice (some ⟨w2.heap.size + 1, 0, none⟩) 1 1) w' → w'.cell? ⟨w2.heap.size, 9, none⟩ = some (.int .i64 d.n) := fun _ h => h.cells.2.2.2.2.2.2.2.2.2.1
    have rn10 : ∀ w', NdBox w2.heap.size d (.slice (some ⟨w2.heap.size + 1, 0, none⟩) 1 1) w' → w'.cell? ⟨w2.heap.size, 10, none⟩ = some (.slice (some ⟨w2.heap.size + 1, 0, none⟩) 1 1) := fun _ h => h.cells.2.2.2.2.2.2.2.2.2.2
    go_upto_region 8 with fail
    clear pc pf
    refine wp_region_noPanic ?_
    refine wp_region_held_drew (S := NdBox w2.heap.size d (.slice (some ⟨w2.heap.size + 1, 0, none⟩) 1 1)) (by kernel_rfl) (HW5.out.2.2.1) (fun hHeld => ?_)
    refine takeAt 0 (some 55) ?_ rfl rfl (by kernel_rfl) (by kernel_rfl) (by kernel_rfl) (fun _ _ _ h => h) (Or.inl ⟨by rfl, ?_⟩) hHeld ?_
    rotate_left
    · intro w hSw
      go_simp <;> with_reducible rfl
    try simp only [Act.put, List.setIfInBounds_toArray, List.set_cons_zero, List.set_cons_succ]
    refine takeAt 1 (some 56) ?_ rfl rfl (by kernel_rfl) (by kernel_rfl) (by kernel_rfl) (fun _ _ _ h => h) (Or.inl ⟨by rfl, ?_⟩) hHeld ?_
    rotate_left
    · intro w hSw
      go_simp <;> with_reducible rfl
    try simp only [Act.put, List.setIfInBounds_toArray, List.set_cons_zero, List.set_cons_succ]
    refine takeAt 2 (some 57) ?_ rfl rfl (by kernel_rfl) (by kernel_rfl) (by kernel_rfl) (fun _ _ _ h => h) (Or.inl ⟨by rfl, ?_⟩) hHeld ?_
    rotate_left
    · intro w hSw
      go_simp <;> with_reducible rfl
    try simp only [Act.put, List.setIfInBounds_toArray, List.set_cons_zero, List.set_cons_succ]
    refine takeAt 3 (some 58) ?_ rfl rfl (by kernel_rfl) (by kernel_rfl) (by kernel_rfl) (fun _ _ _ h => h) (Or.inl ⟨by rfl, ?_⟩) hHeld ?_
    rotate_left
    · intro w hSw
      go_simp <;> with_reducible rfl
    try simp only [Act.put, List.setIfInBounds_toArray, List.set_cons_zero, List.set_cons_succ]
    refine takeAt 4 (some 59) ?_ rfl rfl (by kernel_rfl) (by kernel_rfl) (by kernel_rfl) (fun _ _ _ h => h) (Or.inl ⟨by rfl, ?_⟩) hHeld ?_
    rotate_left
    · intro w hSw
      go_simp <;> with_reducible rfl
    try simp only [Act.put, List.setIfInBounds_toArray, List.set_cons_zero, List.set_cons_succ]
    refine takeAt 5 (some 60) ?_ rfl rfl (by kernel_rfl) (by kernel_rfl) (by kernel_rfl) (fun _ _ _ h => h) (Or.inl ⟨by rfl, ?_⟩) hHeld ?_
    rotate_left
    · intro w hSw
      go_simp <;> with_reducible rfl
    try simp only [Act.put, List.setIfInBounds_toArray, List.set_cons_zero, List.set_cons_succ]
    refine callAt 6 61 45 (vals := #[.pointer (some ⟨rb, 4, none⟩), .agg #[.int .u8 d.op, .int .u8 d.c, .int .u64 d.set.a, .int .u64 d.set.b, .int .u64 d.set.c, .int .u64 d.set.d, .int .i64 d.mn, .int .i64 d.mx, .bool d.lz, .int .i64 d.n, .slice (some ⟨w2.heap.size + 1, 0, none⟩) 1 1]]) (by kernel_rfl) rfl rfl rfl rfl (by simp [Act.eval]) Tryz.func45 (by kernel_rfl) (by kernel_rfl) ?_
    refine Calls.mono (HAd.out) ?_
    rintro e w6 ⟨rfl, vn6, q1, q2⟩
    have q3 : Adv rb vn w2 vn6 w6 := q2.drop (Adv.kp vn rb HW5.out.2.1) (fun j hj => by injection hj with hj; omega)
    obtain ⟨q4, q5⟩ := row_adv H2.out.2.2.1 H2.out.2.2.2 q3
    have H6 : Hid (Rr B rb s last { r1 with nds := r1.nds ++ [{ d with kids := [p] }] } vn6 w6 ∧ Adv rb vn w vn6 w6 ∧ KRow B w6 (.slice (some ⟨pb, 0, none⟩) K cap) ks ∧ Off rb vn6 (.slice (some ⟨pb, 0, none⟩) K cap)) := ⟨q1, AdvX.trans H2.out.2.1 q3, q4, q5⟩
    have HN6 : Hid (NdBox w2.heap.size d (.slice (some ⟨w2.heap.size + 1, 0, none⟩) 1 1) w6) := HW5.out.2.2.1.heap (q2.fr.block _ HW5.out.2.2.1.lt (fun q => q.elim HNn.out.1.1 HNn.out.1.2))
    obtain ⟨pc6, pf6⟩ := HPC.out w6 q4
    clear q1 q2 q3 q4 q5
    refine ⟨_, rfl, HN6.out, fun hHeld => ?_⟩
    try simp only [Act.put, List.setIfInBounds_toArray, List.set_cons_zero, List.set_cons_succ]
    refine takeAt 7 (some 62) ?_ rfl rfl (by kernel_rfl) (by kernel_rfl) (by kernel_rfl) (fun _ _ _ h => h) (Or.inl ⟨by rfl, ?_⟩) hHeld ?_
    rotate_left
    · intro w hSw
      go_simp <;> with_reducible rfl
    try simp only [Act.put, List.setIfInBounds_toArray, List.set_cons_zero, List.set_cons_succ]
    have HF : Hid _ := H6.out.1.write (x := r1.nds.length) H6.out.2.2.1 H6.out.2.2.2 HJ.out.2
    have HN7 : Hid (NdBox w2.heap.size d (.slice (some ⟨w2.heap.size + 1, 0, none⟩) 1 1) (w6.setCell ⟨pb, J, none⟩ (.int .i64 r1.nds.length))) := HN6.out.heap (heap_setCell_other (by have := HNn.out.2; omega))
    refine wpAnyH_ready (rs := [8]) (by kernel_rfl) (by simp) ?_
    refine AllReadyH.cons rfl (fun K hK => ?_) AllReadyH.nil
    go_simp
    refine hK.out _ _ (HN7.out) (fun hHeld => ?_)
    clear hK K
    try simp only [Act.put, List.setIfInBounds_toArray, List.set_cons_zero, List.set_cons_succ]
    refine wpAnyH_done (by kernel_rfl) ?_ _
    refine NoPanic.normal ?_
    go_wp2_with fail
    go_ret
    exact ⟨.slice (some ⟨pb, 0, none⟩) K cap, vn6, by rfl, HF.out.1, by rw [HJ.out.1]; exact HF.out.2.1, H6.out.2.2.2, (LAdv.of H6.out.2.1).trans HF.out.2.2⟩
end
end Go.Proofs.YtpahpnajeliodaaGreatDoor
/- The reader's call again. -/
namespace Go.Proofs.YtpahpnajeliodaaGreatDoor
open Go.ChangeShapes Go.WideShapes Go.ChangeAt Go.RowKit
set_option linter.unusedVariables false
set_option linter.unusedSimpArgs false
def joinF (op : Nat) (ks : List Nat) (r : RS) : Nat × RS :=
  match ks with
  | [] => addN { op := 1 } r
  | [x] => (x, r)
  | _ => addN { op := op, kids := ks } r
def bytesN (l : List UInt8) : List Nd := l.map fun b => { op := 2, c := b.toNat }
def againF (last : ByteArray) (r : RS) : Nat × RS :=
  if 400 < r.nds.length then addN { op := 1 } r
  else joinF 5 ((List.range last.size).map (r.nds.length + ·)) { r with nds := r.nds ++ bytesN last.data.toList }
/-- That cell holds this text. -/
def Tx (a : Addr) (l : ByteArray) (w : World) : Prop := w.cell? a = some (.string l)
section
variable {B rb : Nat} {s last : ByteArray} {r : RS} {vn : Qv} {v : Value} {w : World}
theorem Rr.c5 (h : Rr B rb s last r vn w) : w.cell? ⟨rb, 5, none⟩ = some (.string last) := by obtain ⟨ns, h⟩ := h; exact h.c5
theorem Rr.c4 (h : Rr B rb s last r vn w) : ∃ a cap, w.cell? ⟨rb, 4, none⟩ = some (.slice a r.nds.length cap) ∧ r.nds.length ≤ cap ∧ cap ≤ maxLen := by
  obtain ⟨ns, h⟩ := h
  obtain ⟨a, cap, e, h1, h2⟩ := owns_form h.row
  rw [h.len] at e h1
  exact ⟨a, cap, by rw [← e]; exact h.c4, h1, h2⟩
/-- The builder's join, in these words: the list is given up to it. -/
theorem rjoin (h : Rr B rb s last r vn w) (op : Nat) (hl : r.nds.length < 100000) {ks : List Nat} (hks : ks.length < 100000) (hk : KRow B w v ks) (ho : Off rb vn v) :
    Calls Tryz.prog 31 #[.pointer (some ⟨rb, 4, none⟩), .int .u8 op, v] w fun e w' => e = .returned (.int .i64 (joinF op ks r).1) ∧ ∃ vn', Rr B rb s last (joinF op ks r).2 vn' w' ∧ AdvX v.ownBlock rb vn w vn' w' := by
  have hB := h.hB
  have hr0 := h
  obtain ⟨ns, h⟩ := h
  match ks, hk with
  | [], hk =>
    refine (join_none h op hl hB hk).mono ?_
    rintro e w' ⟨rfl, vn', q1, q2⟩
    exact ⟨rfl, vn', ⟨_, q1⟩, q2.fr, q2.own, fun j hj q => (q2.kbs j hj q).elim .inl (fun z => by cases z)⟩
  | [x], hk =>
    refine (join_one op hk).mono ?_
    rintro e w' ⟨rfl, rfl⟩
    exact ⟨rfl, vn, hr0, Fr.refl _ _, .inl rfl, fun _ _ h => .inl h⟩
  | x :: y :: ks, hk =>
    refine (join_more h op hl hB hk ho.k (by simp) hks).mono ?_
    rintro e w' ⟨rfl, vn', q1, q2⟩
    exact ⟨rfl, vn', ⟨_, q1⟩, q2⟩
set_option maxHeartbeats 4000000 in
set_option maxRecDepth 100000 in
theorem again_any (h : Rr B rb s last r vn w) (hl : last.size ≤ 1100) (hn : r.nds.length < 50000) :
    Calls Tryz.prog 76 #[.pointer (some ⟨rb, 0, none⟩)] w (RetI B rb s last vn w (.ok (againF last r))) := by
  obtain ⟨a4, p4, c4, l4, m4⟩ := h.c4
  unfold maxLen at m4
  unfold againF
  by_cases hbig : 400 < r.nds.length
  · rw [if_pos hbig]
    have d : decide ((400 : Int) < (r.nds.length : Int)) = true := decide_eq_true (by omega)
    have HA : Hid _ := rbare h 1 (by omega)
    clear h hbig
    go_enter Tryz.func76, Tryz.ntmps76
    go_wp2_with fail
    refine Calls.mono HA.out ?_
    rintro e w1 ⟨rfl, q⟩
    have HQ : Hid _ := q
    clear q
    go_wp2_with fail
    go_ret
    exact ⟨rfl, HQ.out⟩
  · rw [if_neg hbig]
    have d : decide ((400 : Int) < (r.nds.length : Int)) = false := decide_eq_false (by omega)
    obtain ⟨i9, hi9, z0, z1, z2⟩ := info_parts infoInt
    have c5 := h.c5
    obtain ⟨N0, hN0⟩ : ∃ N0, r.nds.length = N0 := ⟨_, rfl⟩
    have HN0 : Hid (r.nds.length = N0) := hN0
    rw [hN0] at c4 l4 d hn
    have hb4 : N0 ≤ 400 := by omega
    have HR : Hid (Rr B rb s last r vn w) := h
    obtain ⟨L, hL⟩ : ∃ L, last.size = L := ⟨_, rfl⟩
    have HL : Hid (last.size = L) := hL
    rw [hL] at hl
    have hls : (last.size : Int) = (L : Int) := by omega
    clear h hbig hN0 hL
    go_enter Tryz.func76, Tryz.ntmps76
    go_wp2_with fail
    go_loopw [3, 21] (fun v3 v21 wr => ∃ (i : Nat) (vn' : Qv), i ≤ L ∧ v21 = .int .i64 i ∧ Rr B rb s last { r with nds := r.nds ++ bytesN (last.data.toList.take i) } vn' wr ∧ KRow B wr v3 ((List.range i).map (N0 + ·)) ∧ Off rb vn' v3 ∧ Adv rb vn w vn' wr ∧ ∀ j, v3.ownBlock = some j → w.heap.size ≤ j) (fun _ v21 _ => L - (intOf v21).toNat)
    case atStart => exact ⟨0, vn, Nat.zero_le _, rfl, by simpa [bytesN] using HR.out, leaf_row B w, (fun j hj => by cases hj), Adv.refl _ _ _, (fun j hj => by cases hj)⟩
    case round =>
      obtain ⟨i, vn1, hi, rfl, hO, hk, hof, hA, hnew⟩ := hrel
      obtain ⟨a3, p3, e3, k1, k2⟩ := owns_form hk
      subst e3
      have HKl : Hid (((List.range i).map (N0 + ·)).length = i) := by show ((List.range i).map (N0 + ·)).length = i; simp
      rw [HKl.out] at hk hof hnew k1 ⊢
      have HS : Hid (Rr B rb s last { r with nds := r.nds ++ bytesN (last.data.toList.take i) } vn1 wr ∧ KRow B wr (.slice a3 i p3) ((List.range i).map (N0 + ·)) ∧ Off rb vn1 (.slice a3 i p3) ∧ Adv rb vn w vn1 wr ∧ ∀ j, (Value.slice a3 i p3).ownBlock = some j → w.heap.size ≤ j) := ⟨hO, hk, hof, hA, hnew⟩
      have HLn : Hid ((r.nds ++ bytesN (last.data.toList.take i)).length = N0 + i) := by
        have := HN0.out
        have h2 : last.data.toList.length = L := by rw [← Lib.size_eq]; exact HL.out
        show (r.nds ++ bytesN (last.data.toList.take i)).length = N0 + i
        simp [bytesN]; omega
      unfold maxLen at k2
      by_cases hlt : i < L
      · have dl : decide ((i : Int) < (L : Int)) = true := decide_eq_true (by omega)
        have hil : i < last.size := by rw [HL.out]; exact hlt
        obtain ⟨ks, hks⟩ : ∃ ks, (List.range i).map (N0 + ·) = ks := ⟨_, rfl⟩
        rw [hks] at HS HKl
        have HKS : Hid ((List.range i).map (N0 + ·) = ks) := hks
        have HK : Hid (ks.length = i) := HKl.out
        have HTx : Hid (Tx ⟨rb, 5, none⟩ last wr.drew) := hO.c5
        have rl5 : ∀ w', Tx ⟨rb, 5, none⟩ last w' → w'.cell? ⟨rb, 5, none⟩ = some (.string last) := fun _ h => h
        have HPl : Hid (Calls Tryz.prog 57 #[.pointer (some ⟨rb, 4, none⟩), .int .u8 (last[i]).toNat] wr.drew fun e w' => e = .returned (.int .i64 ((N0 + i : Nat) : Int)) ∧ Okk B rb s last vn1 wr.drew { r with nds := r.nds ++ bytesN (last.data.toList.take (i + 1)) } w') := by
          have := rplain (hO.kp (kp_drew wr)) (last[i]).toNat (by rw [HLn.out]; omega)
          rw [HLn.out] at this
          have e : (r.nds ++ bytesN (last.data.toList.take i)) ++ [{ op := 2, c := (last[i]).toNat }] = r.nds ++ bytesN (last.data.toList.take (i + 1)) := by
            rw [List.append_assoc, List.take_succ_eq_append_getElem (by rw [← Lib.size_eq]; exact hil)]
            simp [bytesN]; rfl
          simp only [e] at this
          exact this
        clear hO hk hof hA hnew hks HKl
        go_wp2_with fail
        refine wp_region_noPanic ?_
        refine wp_region_held_drew (S := Tx ⟨rb, 5, none⟩ last) (by kernel_rfl) (HTx.out) (fun hHeld => ?_)
        refine takeAt 0 (some 24) ?_ rfl rfl (by kernel_rfl) (by kernel_rfl) (by kernel_rfl) (fun _ _ _ h => h) (Or.inl ⟨by rfl, ?_⟩) hHeld ?_
        rotate_left
        · intro w hSw
          go_simp <;> with_reducible rfl
        try simp only [Act.put, List.setIfInBounds_toArray, List.set_cons_zero, List.set_cons_succ]
        refine takeAt 1 (some 25) ?_ rfl rfl (by kernel_rfl) (by kernel_rfl) (by kernel_rfl) (fun _ _ _ h => h) (Or.inl ⟨by rfl, ?_⟩) hHeld ?_
        rotate_left
        · intro w hSw
          go_simp <;> with_reducible rfl
        try simp only [Act.put, List.setIfInBounds_toArray, List.set_cons_zero, List.set_cons_succ]
        refine takeAt 2 (some 26) ?_ rfl rfl (by kernel_rfl) (by kernel_rfl) (by kernel_rfl) (fun _ _ _ h => h) (Or.inl ⟨by rfl, ?_⟩) hHeld ?_
        rotate_left
        · intro w hSw
          go_simp <;> with_reducible rfl
        try simp only [Act.put, List.setIfInBounds_toArray, List.set_cons_zero, List.set_cons_succ]
        refine takeAt 3 (some 27) ?_ rfl rfl (by kernel_rfl) (by kernel_rfl) (by kernel_rfl) (fun _ _ _ h => h) (Or.inl ⟨by rfl, ?_⟩) hHeld ?_
        rotate_left
        · intro w hSw
          go_simp <;> with_reducible rfl
        try simp only [Act.put, List.setIfInBounds_toArray, List.set_cons_zero, List.set_cons_succ]
        refine takeAt 4 (some 28) ?_ rfl rfl (by kernel_rfl) (by kernel_rfl) (by kernel_rfl) (fun _ _ _ h => h) (Or.inl ⟨by rfl, ?_⟩) hHeld ?_
        rotate_left
        · intro w hSw
          go_simp <;> with_reducible rfl
        try simp only [Act.put, List.setIfInBounds_toArray, List.set_cons_zero, List.set_cons_succ]
        refine takeAt 5 (some 29) ?_ rfl rfl (by kernel_rfl) (by kernel_rfl) (by kernel_rfl) (fun _ _ _ h => h) (Or.inl ⟨by rfl, ?_⟩) hHeld ?_
        rotate_left
        · intro w hSw
          go_simp <;> with_reducible rfl
        try simp only [Act.put, List.setIfInBounds_toArray, List.set_cons_zero, List.set_cons_succ]
        refine takeAt 6 (some 30) ?_ rfl rfl (by kernel_rfl) (by kernel_rfl) (by kernel_rfl) (fun _ _ _ h => h) (Or.inl ⟨by rfl, ?_⟩) hHeld ?_
        rotate_left
        · intro w hSw
          go_simp <;> with_reducible rfl
        try simp only [Act.put, List.setIfInBounds_toArray, List.set_cons_zero, List.set_cons_succ]
        refine takeAt 7 (some 31) ?_ rfl rfl (by kernel_rfl) (by kernel_rfl) (by kernel_rfl) (fun _ _ _ h => h) (Or.inl ⟨by rfl, ?_⟩) hHeld ?_
        rotate_left
        · intro w hSw
          go_simp <;> with_reducible rfl
        try simp only [Act.put, List.setIfInBounds_toArray, List.set_cons_zero, List.set_cons_succ]
        refine takeAt 8 (some 32) ?_ rfl rfl (by kernel_rfl) (by kernel_rfl) (by kernel_rfl) (fun _ _ _ h => h) (Or.inl ⟨by rfl, ?_⟩) hHeld ?_
        rotate_left
        · intro w hSw
          go_simp <;> with_reducible rfl
        try simp only [Act.put, List.setIfInBounds_toArray, List.set_cons_zero, List.set_cons_succ]
        refine takeAt 9 (some 33) ?_ rfl rfl (by kernel_rfl) (by kernel_rfl) (by kernel_rfl) (fun _ _ _ h => h) (Or.inl ⟨by rfl, ?_⟩) hHeld ?_
        rotate_left
        · intro w hSw
          go_simp <;> with_reducible rfl
        try simp only [Act.put, List.setIfInBounds_toArray, List.set_cons_zero, List.set_cons_succ]
        refine callAt 10 34 57 (vals := #[.pointer (some ⟨rb, 4, none⟩), .int .u8 (last[i]).toNat]) (by kernel_rfl) rfl rfl rfl rfl (by simp [Act.eval]) Tryz.func57 (by kernel_rfl) (by kernel_rfl) ?_
        refine Calls.mono (HPl.out) ?_
        rintro e w2 ⟨rfl, q⟩
        obtain ⟨vn2, q1, q2⟩ := q
        obtain ⟨q3, q4⟩ := row_adv (row_kp HS.out.2.1 (kp_drew wr)) HS.out.2.2.1 q2
        have H2 : Hid (Rr B rb s last { r with nds := r.nds ++ bytesN (last.data.toList.take (i + 1)) } vn2 w2 ∧ KRow B w2 (.slice a3 i p3) ks ∧ Off rb vn2 (.slice a3 i p3) ∧ Adv rb vn w vn2 w2 ∧ ∀ j, (Value.slice a3 i p3).ownBlock = some j → w.heap.size ≤ j) := ⟨q1, q3, q4, (HS.out.2.2.2.1.trans (Adv.kp vn1 rb (kp_drew wr))).trans q2, HS.out.2.2.2.2⟩
        clear q1 q2 q3 q4
        refine ⟨_, rfl, H2.out.1.c5, fun hHeld => ?_⟩
        try simp only [Act.put, List.setIfInBounds_toArray, List.set_cons_zero, List.set_cons_succ]
        refine wpAnyH_ready (rs := [11]) (by kernel_rfl) (by simp) ?_
        refine AllReadyH.cons rfl (fun K hK => ?_) AllReadyH.nil
        go_simp
        refine hK.out _ _ ((H2.out.1.kp (kp_alloc _ _)).c5) (fun hHeld => ?_)
        clear hK K
        try simp only [Act.put, List.setIfInBounds_toArray, List.set_cons_zero, List.set_cons_succ]
        have HOW : Hid ((w2.alloc (.cells #[.int .i64 ((N0 + i : Nat) : Int)] 3)).ownsRow B 3 1 (.slice a3 i p3) i (nums ks)) := by have := row_kp H2.out.2.1 (kp_alloc w2 (.cells #[.int .i64 ((N0 + i : Nat) : Int)] 3)); rw [HK.out] at this; exact this
        have HNEW : Hid (∀ j u, ([.int .i64 ((N0 + i : Nat) : Int)] : List Value)[j]? = some u → (w2.alloc (.cells #[.int .i64 ((N0 + i : Nat) : Int)] 3)).cell? ((⟨w2.heap.size, 0, none⟩ : Addr).add j) = some u) := by
          intro j u hj
          rw [Addr.add_lit, cell_at (alloc_new w2 _), Nat.zero_add, ← hj]; exact List.getElem?_toArray
        have HONE : Hid (∀ u ∈ ([.int .i64 ((N0 + i : Nat) : Int)] : List Value), u.oneCell' = true) := by intro u hu; simp only [List.mem_singleton] at hu; subst hu; rfl
        have HSZ : Hid ((w2.alloc (.cells #[.int .i64 ((N0 + i : Nat) : Int)] 3)).heap.size = w2.heap.size + 1) := alloc_size _ _
        have HBW : Hid (B ≤ (w2.alloc (.cells #[.int .i64 ((N0 + i : Nat) : Int)] 3)).heap.size) := by have := H2.out.1.hB; have := HSZ.out; show B ≤ _; omega
        refine wpAnyH_ready (rs := [12]) (by kernel_rfl) (by simp) ?_
        refine AllReadyH.cons rfl (fun K1 hK => ?_) AllReadyH.nil
        refine step_append_lies _ rfl (.tmp 24) (.tmp 35) 71 rfl B 3 i9 _ 1 8 Tryz.underlying71 hi9 z0 z1 z2 rfl (by decide) (.slice a3 i p3) i (nums ks) rfl HOW.out ⟨w2.heap.size, 0, none⟩ 1 1 [.int .i64 ((N0 + i : Nat) : Int)] rfl rfl HNEW.out HONE.out (by omega) (by unfold maxLen; omega) (by omega) HBW.out (w2.heap.size + 1) HSZ.out ?_
        intro g cp w3 hown hgrow hat hlt
        have HF : Hid _ := H2.out.1.snoc (x := N0 + i) HK.out H2.out.2.1 H2.out.2.2.1 (kp_alloc w2 (.cells #[.int .i64 ((N0 + i : Nat) : Int)] 3)) hown hgrow (by rw [HSZ.out]; exact hat)
        clear hown hgrow hat hlt
        change K1 (Act.put _ (some 36) (.slice (some ⟨g, 0, none⟩) (i + 1) cp)) w3
        refine hK.out _ _ (HF.out.1.c5) (fun hHeld => ?_)
        clear hK K1
        try simp only [Act.put, List.setIfInBounds_toArray, List.set_cons_zero, List.set_cons_succ]
        refine takeAt 13 (some 3) ?_ rfl rfl (by kernel_rfl) (by kernel_rfl) (by kernel_rfl) (fun _ _ _ h => h) (Or.inl ⟨by rfl, ?_⟩) hHeld ?_
        rotate_left
        · intro w hSw
          go_simp <;> with_reducible rfl
        try simp only [Act.put, List.setIfInBounds_toArray, List.set_cons_zero, List.set_cons_succ]
        refine wpAnyH_done (by kernel_rfl) ?_ _
        refine NoPanic.normal ?_
        go_wp2_with fail
        go_roundw
        case rel =>
          have e : (List.range (i + 1)).map (N0 + ·) = ks ++ [N0 + i] := by rw [List.range_succ, List.map_append, HKS.out]; rfl
          obtain ⟨A1, A2⟩ := LAdv.adv H2.out.2.2.2.1 HF.out.2.2.2 H2.out.2.2.2.2
          exact ⟨i + 1, vn2, by omega, by go_num, HF.out.1, by rw [e]; exact HF.out.2.1, HF.out.2.2.1, A1, A2⟩
        case measure => simp [intOf]; omega
      · obtain rfl : i = L := by omega
        have dl : decide ((i : Int) < (i : Int)) = false := by simp
        have HTk : Hid (last.data.toList.take i = last.data.toList) := List.take_of_length_le (by rw [← Lib.size_eq, HL.out]; exact Nat.le_refl _)
        rw [HTk.out] at HS HLn
        have HJ := rjoin HS.out.1 5 (by rw [HLn.out]; omega) (by rw [HKl.out]; omega) HS.out.2.1 HS.out.2.2.1
        have HN := HS.out
        have e : ((List.range i).map (N0 + ·)) = (List.range last.size).map (r.nds.length + ·) := by rw [HL.out, HN0.out]
        rw [e] at HJ
        obtain ⟨JJ, hJJ⟩ : ∃ JJ, joinF 5 ((List.range last.size).map (r.nds.length + ·)) { r with nds := r.nds ++ bytesN last.data.toList } = JJ := ⟨_, rfl⟩
        rw [hJJ] at HJ
        have HJ' : Hid _ := HJ
        have HJJ : Hid (joinF 5 ((List.range last.size).map (r.nds.length + ·)) { r with nds := r.nds ++ bytesN last.data.toList } = JJ) := hJJ
        clear hO hk hof hA hnew HJ HN e hJJ
        go_wp2_with fail
        refine Calls.mono HJ'.out ?_
        rintro e w2 ⟨rfl, vn2, q1, q2⟩
        have HQ : Hid (Okk B rb s last vn w JJ.2 w2) := ⟨vn2, q1, by
          have a := HS.out.2.2.2.1
          have q := AdvX.trans a q2
          refine ⟨q.fr, q.own, fun j hj hq => ?_⟩
          rcases q.kbs j hj hq with z | z
          · exact .inl z
          · exact absurd (HS.out.2.2.2.2 j z) (by omega)⟩
        clear q1 q2
        go_wp2_with fail
        go_ret
        rw [HJJ.out]
        exact ⟨rfl, HQ.out⟩
end
end Go.Proofs.YtpahpnajeliodaaGreatDoor
/- A collection's items: member. -/
namespace Go.Proofs.YtpahpnajeliodaaGreatDoor
open Go.ChangeShapes Go.WideShapes Go.ChangeAt Go.RowKit
set_option linter.unusedVariables false
set_option linter.unusedSimpArgs false
def escC : ByteArray := ⟨#[101, 116, 114, 98, 110, 92, 93, 94, 45]⟩
/-- A byte of a collection, as it stands or behind a backslash; where it ends. -/
def memF (s : ByteArray) (k : Nat) : Nat × Nat :=
  if byteAt s k = 92 then
    if k + 1 < s.size then
      if amo (byteAt s (k + 1)) escC then (if byteAt s (k + 1) = 110 then 10 else ctlC (byteAt s (k + 1)), k + 2) else (byteAt s k, k + 1)
    else (byteAt s k, k + 1)
  else (byteAt s k, k + 1)
theorem memF_le {s : ByteArray} {k : Nat} (h : k < s.size) : k < (memF s k).2 ∧ (memF s k).2 ≤ s.size ∧ (memF s k).1 < 256 := by
  have hb := byteAt_lt s k
  have hc := byteAt_lt s (k + 1)
  have hq : ctlC (byteAt s (k + 1)) < 256 := by
    unfold ctlC
    split
    · omega
    · split
      · omega
      · split
        · omega
        · split
          · omega
          · exact hc
  unfold memF
  split
  · split
    · split
      · refine ⟨by simp, by simp; omega, ?_⟩
        simp only
        split
        · omega
        · exact hq
      · exact ⟨by simp, by simp; omega, hb⟩
    · exact ⟨by simp, by simp; omega, hb⟩
  · exact ⟨by simp, by simp; omega, hb⟩
section
variable {tl : List Value} {s md : ByteArray} {k cs b : Nat} {w : World}
set_option maxHeartbeats 2000000 in
set_option maxRecDepth 100000 in
theorem member_any (h : Scn 141 tl s k md cs b w) (hs : s.size ≤ 400) (hk : k < s.size) :
    Calls Tryz.prog 109 #[.pointer (some ⟨b, 0, none⟩)] w fun e w' => e = .returned (.int .u8 (memF s k).1) ∧ Fr (On b) w w' ∧ Scn 141 tl s (memF s k).2 md cs b w' := by
  have HT : Hid _ := take_one h hs hk
  clear h
  unfold memF
  by_cases hc : byteAt s k = 92
  · rw [if_pos hc]
    have HC : Hid (byteAt s k = 92) := hc
    rw [hc] at HT ⊢
    clear hc
    by_cases h1 : k + 1 < s.size
    · rw [if_pos h1]
      obtain ⟨K, hK⟩ : ∃ K, k + 1 = K := ⟨_, rfl⟩
      have HK : Hid (k + 1 = K) := hK
      have hk2 : k + 2 = K + 1 := by omega
      rw [hk2]
      rw [hK] at HT h1 ⊢
      clear hK hk2
      have hne : ((K : Int) == (s.size : Int)) = false := by simp; omega
      have HBy : Hid (byteAt s K = (s[K]).toNat) := byteAt_eq s K h1
      obtain ⟨y, hy⟩ : ∃ y, amo (byteAt s K) escC = y := ⟨_, rfl⟩
      have HAm : Hid (∀ x, Calls Tryz.prog 41 #[.int .u8 (s[K]).toNat, .string ⟨#[101, 116, 114, 98, 110, 92, 93, 94, 45]⟩] x fun e w' => e = .returned (.bool y) ∧ w' = x) := fun x => by
        have := among_any (s[K]).toNat escC x
        rw [← HBy.out, hy] at this
        rw [← HBy.out]
        exact this
      rw [hy]
      clear hy
      cases y with
      | true =>
        rw [if_pos rfl]
        by_cases hn : byteAt s K = 110
        · rw [if_pos hn]
          go_enter Tryz.func109, Tryz.ntmps109
          go_wp2_with fail
          refine Calls.mono HT.out ?_
          rintro e w1 ⟨rfl, q1, q2⟩
          have d0 := q2.c0
          have d1 : w1.cell? ⟨b, 1, none⟩ = some (.int .i64 K) := q2.c1
          have H1 : Hid (Fr (On b) w w1 ∧ Scn 141 tl s K md cs b w1) := ⟨q1, q2⟩
          clear q1 q2
          go_wp2_with fail
          go_quiet ((go_at_call 41; exact Calls.quiet_of_same (HAm.out _)))
          have H2 : Hid (Fr (On b) w (w1.drewN nq) ∧ Scn 141 tl s K md cs b (w1.drewN nq)) := ⟨H1.out.1.trans (Fr.drewN _ _ _), H1.out.2.drewN nq⟩
          change Exit.then _ _ _ _ (w1.drewN nq)
          generalize w1.drewN nq = w2 at *
          have HT2 : Hid _ := take_one H2.out.2 hs h1
          clear d0 d1
          rw [hn] at HT2
          go_wp2_with fail
          refine Calls.mono HT2.out ?_
          rintro e w3 ⟨rfl, q1, q2⟩
          have H3 : Hid (Fr (On b) w w3 ∧ Scn 141 tl s (K + 1) md cs b w3) := ⟨H2.out.1.trans q1, q2⟩
          clear q1 q2
          go_wp2_with fail
          go_ret
          exact ⟨rfl, H3.out⟩
        · rw [if_neg hn]
          obtain ⟨D, hD⟩ : ∃ D, byteAt s K = D := ⟨_, rfl⟩
          have HD : Hid (byteAt s K = D) := hD
          rw [hD] at hn ⊢
          have dn : ((D : Int) == 110) = false := by simp; omega
          clear hD hn
          go_enter Tryz.func109, Tryz.ntmps109
          go_wp2_with fail
          refine Calls.mono HT.out ?_
          rintro e w1 ⟨rfl, q1, q2⟩
          have d0 := q2.c0
          have d1 : w1.cell? ⟨b, 1, none⟩ = some (.int .i64 K) := q2.c1
          have H1 : Hid (Fr (On b) w w1 ∧ Scn 141 tl s K md cs b w1) := ⟨q1, q2⟩
          clear q1 q2
          go_wp2_with fail
          go_quiet ((go_at_call 41; exact Calls.quiet_of_same (HAm.out _)))
          have H2 : Hid (Fr (On b) w (w1.drewN nq) ∧ Scn 141 tl s K md cs b (w1.drewN nq)) := ⟨H1.out.1.trans (Fr.drewN _ _ _), H1.out.2.drewN nq⟩
          change Exit.then _ _ _ _ (w1.drewN nq)
          generalize w1.drewN nq = w2 at *
          have HT2 : Hid _ := take_one H2.out.2 hs h1
          clear d0 d1
          rw [HD.out] at HT2
          go_wp2_with fail
          refine Calls.mono HT2.out ?_
          rintro e w3 ⟨rfl, q1, q2⟩
          have H3 : Hid (Fr (On b) w w3 ∧ Scn 141 tl s (K + 1) md cs b w3) := ⟨H2.out.1.trans q1, q2⟩
          clear q1 q2
          go_wp2_with fail
          refine Calls.mono (control_any D _) ?_
          rintro e _ ⟨rfl, rfl⟩
          go_wp2_with fail
          go_ret
          exact ⟨rfl, H3.out⟩
      | false =>
        rw [if_neg (by simp)]
        go_enter Tryz.func109, Tryz.ntmps109
        go_wp2_with fail
        refine Calls.mono HT.out ?_
        rintro e w1 ⟨rfl, q1, q2⟩
        have d0 := q2.c0
        have d1 : w1.cell? ⟨b, 1, none⟩ = some (.int .i64 K) := q2.c1
        have H1 : Hid (Fr (On b) w w1 ∧ Scn 141 tl s K md cs b w1) := ⟨q1, q2⟩
        clear q1 q2
        go_wp2_with fail
        go_quiet ((go_at_call 41; exact Calls.quiet_of_same (HAm.out _)))
        have H2 : Hid (Fr (On b) w (w1.drewN nq) ∧ Scn 141 tl s K md cs b (w1.drewN nq)) := ⟨H1.out.1.trans (Fr.drewN _ _ _), H1.out.2.drewN nq⟩
        go_wp2_with fail
        go_ret
        exact ⟨rfl, H2.out⟩
    · rw [if_neg h1]
      have heq : ((k : Int) + 1 == (s.size : Int)) = true := by simp; omega
      go_enter Tryz.func109, Tryz.ntmps109
      go_wp2_with fail
      refine Calls.mono HT.out ?_
      rintro e w1 ⟨rfl, q1, q2⟩
      have d0 := q2.c0
      have d1 : w1.cell? ⟨b, 1, none⟩ = some (.int .i64 ((k : Int) + 1)) := q2.c1
      have H1 : Hid (Fr (On b) w w1 ∧ Scn 141 tl s (k + 1) md cs b w1) := ⟨q1, q2⟩
      clear q1 q2
      go_wp2_with fail
      go_quiet (fail)
      have H2 : Hid (Fr (On b) w (w1.drewN nq) ∧ Scn 141 tl s (k + 1) md cs b (w1.drewN nq)) := ⟨H1.out.1.trans (Fr.drewN _ _ _), H1.out.2.drewN nq⟩
      go_wp2_with fail
      go_ret
      exact ⟨rfl, H2.out⟩
  · rw [if_neg hc]
    obtain ⟨C, hC⟩ : ∃ C, byteAt s k = C := ⟨_, rfl⟩
    rw [hC] at hc HT ⊢
    have d92 : ((C : Int) != 92) = true := by simp; omega
    clear hc hC
    go_enter Tryz.func109, Tryz.ntmps109
    go_wp2_with fail
    refine Calls.mono HT.out ?_
    rintro e w1 ⟨rfl, q1, q2⟩
    have H1 : Hid (Fr (On b) w w1 ∧ Scn 141 tl s (k + 1) md cs b w1) := ⟨q1, q2⟩
    clear q1 q2
    go_wp2_with fail
    go_quiet (fail)
    have H2 : Hid (Fr (On b) w (w1.drewN nq) ∧ Scn 141 tl s (k + 1) md cs b (w1.drewN nq)) := ⟨H1.out.1.trans (Fr.drewN _ _ _), H1.out.2.drewN nq⟩
    go_wp2_with fail
    go_ret
    exact ⟨rfl, H2.out⟩
end
end Go.Proofs.YtpahpnajeliodaaGreatDoor
/- A collection's items: span. -/
namespace Go.Proofs.YtpahpnajeliodaaGreatDoor
open Go.ChangeShapes Go.WideShapes Go.ChangeAt Go.RowKit
set_option linter.unusedVariables false
set_option linter.unusedSimpArgs false
def spanB (s : ByteArray) (k : Nat) : Bool := decide (k + 1 < s.size ∧ byteAt s k = 45 ∧ byteAt s (k + 1) ≠ 93)
def addTo (q : S4) (a : Nat) : Nat → S4
  | 0 => q
  | n + 1 => withS (addTo q a n) (a + n)
theorem addTo_ok {q : S4} (hq : q.ok) {a n : Nat} (h : a + n ≤ 256) : (addTo q a n).ok := by
  induction n with
  | zero => exact hq
  | succ n ih => exact ok_with (ih (by omega)) (by omega)
/-- A byte, or all from one to another: the set, whether they fall, where they end. -/
def spanF (s : ByteArray) (k : Nat) (q : S4) (fl : Bool) : S4 × Bool × Nat :=
  let m := memF s k
  let e := if spanB s m.2 then memF s (m.2 + 1) else m
  (addTo q m.1 (e.1 + 1 - m.1), fl || decide (e.1 < m.1), e.2)
/-- The items of a collection in memory. -/
def It (s md : ByteArray) (cs : Nat) (q : S4) (fl : Bool) (k b : Nat) (w : World) : Prop := Scn 141 [.int .u64 q.a, .int .u64 q.b, .int .u64 q.c, .int .u64 q.d, .bool fl] s k md cs b w
section
variable {s md : ByteArray} {k cs b : Nat} {q : S4} {fl : Bool} {w : World}
theorem It.cells (h : It s md cs q fl k b w) : (w.cell? ⟨b, 4, none⟩ = some (.int .u64 q.a) ∧ w.cell? ⟨b, 5, none⟩ = some (.int .u64 q.b) ∧ w.cell? ⟨b, 6, none⟩ = some (.int .u64 q.c) ∧ w.cell? ⟨b, 7, none⟩ = some (.int .u64 q.d)) ∧ w.cell? ⟨b, 8, none⟩ = some (.bool fl) := by
  unfold It Scn at h
  exact ⟨⟨by simp [World.cell?, h], by simp [World.cell?, h], by simp [World.cell?, h], by simp [World.cell?, h]⟩, by simp [World.cell?, h]⟩
theorem It.setFl (h : It s md cs q fl k b w) (y : Bool) : It s md cs q y k b (w.setCell ⟨b, 8, none⟩ (.bool y)) := by unfold It Scn at h ⊢; rw [heap_setCell h]; simp
theorem It.setQ (h : It s md cs q fl k b w) (p : S4) : It s md cs p fl k b ((((w.setCell ⟨b, 4, none⟩ (.int .u64 p.a)).setCell ⟨b, 5, none⟩ (.int .u64 p.b)).setCell ⟨b, 6, none⟩ (.int .u64 p.c)).setCell ⟨b, 7, none⟩ (.int .u64 p.d)) := by
  unfold It Scn at h ⊢
  have h1 := heap_setCell (off := 4) (v := .int .u64 p.a) h
  have h2 := heap_setCell (off := 5) (v := .int .u64 p.b) h1
  have h3 := heap_setCell (off := 6) (v := .int .u64 p.c) h2
  rw [heap_setCell h3]; simp
theorem It.frQ (p : S4) (w : World) : Fr (On b) w ((((w.setCell ⟨b, 4, none⟩ (.int .u64 p.a)).setCell ⟨b, 5, none⟩ (.int .u64 p.b)).setCell ⟨b, 6, none⟩ (.int .u64 p.c)).setCell ⟨b, 7, none⟩ (.int .u64 p.d)) :=
  (((fr_set b 4 _ w).trans (fr_set b 5 _ _)).trans (fr_set b 6 _ _)).trans (fr_set b 7 _ _)
theorem It.fz (h : It s md cs q fl k b w) (j : Nat) : w.frozen? ⟨b, j, none⟩ = false := Scn.fz h j
theorem It.kp {w' : World} (h : It s md cs q fl k b w) (z : Kp w w') : It s md cs q fl k b w' := Scn.kp h z
set_option maxHeartbeats 4000000 in
set_option maxRecDepth 100000 in
theorem span_any (h : It s md cs q fl k b w) (hq : q.ok) (hs : s.size ≤ 400) (hk : k < s.size) :
    Calls Tryz.prog 101 #[.pointer (some ⟨b, 0, none⟩)] w fun e w' => e = .returned (.tuple #[]) ∧ Fr (On b) w w' ∧ It s md cs (spanF s k q fl).1 (spanF s k q fl).2.1 (spanF s k q fl).2.2 b w' := by
  obtain ⟨m1, m2, m3⟩ := memF_le hk
  have HM : Hid _ := member_any h hs hk
  unfold spanF
  obtain ⟨a, k1, hm⟩ : ∃ a k1, memF s k = (a, k1) := ⟨_, _, rfl⟩
  rw [hm] at HM m1 m2 m3 ⊢
  simp only at m1 m2 m3 ⊢
  obtain ⟨sp, hsp⟩ : ∃ sp, spanB s k1 = sp := ⟨_, rfl⟩
  have HSp : Hid (spanB s k1 = sp) := hsp
  rw [hsp]
  obtain ⟨E, hE⟩ : ∃ E, (if sp = true then memF s (k1 + 1) else (a, k1)) = E := ⟨_, rfl⟩
  have HE : Hid ((if sp = true then memF s (k1 + 1) else (a, k1)) = E) := hE
  rw [hE]
  have HH : Hid (q.ok) := hq
  clear h hm hsp hE hq
  go_enter Tryz.func101, Tryz.ntmps101
  go_wp2_with fail
  refine Calls.mono HM.out ?_
  rintro e w1 ⟨rfl, q1, q2⟩
  have H1 : Hid (Fr (On b) w w1 ∧ It s md cs q fl k1 b w1) := ⟨q1, q2⟩
  have d0 := q2.c0
  have d1 := q2.c1
  clear q1 q2 HM
  go_wp2_with fail
  go_quiet (fail)
  change Exit.then _ _ _ _ (w1.drewN nq)
  have H2 : Hid (Fr (On b) w (w1.drewN nq) ∧ It s md cs q fl k1 b (w1.drewN nq)) := ⟨H1.out.1.trans (Fr.drewN _ _ _), Scn.drewN H1.out.2 nq⟩
  generalize w1.drewN nq = w2 at *
  obtain ⟨rest, hrest⟩ : ∃ rest, s.extract k1 s.size = rest := ⟨_, rfl⟩
  have hrs : rest.size = s.size - k1 := by rw [← hrest]; simp
  have HRb : Hid (∀ j (hj : j < rest.size), (rest[j]).toNat = byteAt s (k1 + j)) := fun j hj => by
    rw [byteAt_eq s (k1 + j) (by omega)]
    congr 1
    subst hrest
    exact ByteArray.getElem_extract ..
  rw [hrest]
  have HRS : Hid (rest.size = s.size - k1) := hrs
  have hr4 : rest.size ≤ 400 := by omega
  clear hrest d0 d1 H1 hrs
  go_upto_region 3 with fail
  go_cut [32] from 20 (fun v32 wx => v32 = .bool sp ∧ wx = w2)
  case first =>
    by_cases hA : 1 < rest.size
    · have dA : decide ((1 : Int) < (rest.size : Int)) = true := decide_eq_true (by omega)
      have b0 : (rest[0]).toNat = byteAt s k1 := HRb.out 0 (by omega)
      have b1 : (rest[1]).toNat = byteAt s (k1 + 1) := HRb.out 1 hA
      by_cases hB : (rest[0]).toNat = 45
      · have dB : (((rest[0]).toNat : Int) == 45) = true := by simp; omega
        by_cases hC : (rest[1]).toNat = 93
        · have dC : (((rest[1]).toNat : Int) != 93) = false := by simp; omega
          have hf : sp = false := by
            rw [← HSp.out]; unfold spanB
            refine decide_eq_false fun hq => hq.2.2 (by rw [← b1]; exact hC)
          have HF : Hid (sp = false) := hf
          clear b0 b1 hB hC hf
          go_wp2_with fail
          go_meet
          case rel => exact ⟨by rw [HF.out], rfl⟩
        · have dC : (((rest[1]).toNat : Int) != 93) = true := by simp; omega
          have hf : sp = true := by
            rw [← HSp.out]; unfold spanB
            have := HRS.out
            refine decide_eq_true ⟨by omega, by rw [← b0]; exact hB, by rw [← b1]; exact hC⟩
          have HF : Hid (sp = true) := hf
          clear b0 b1 hB hC hf
          go_wp2_with fail
          go_meet
          case rel => exact ⟨by rw [HF.out], rfl⟩
      · have dB : (((rest[0]).toNat : Int) == 45) = false := by simp; omega
        have hf : sp = false := by
          rw [← HSp.out]; unfold spanB
          refine decide_eq_false fun hq => hB (by rw [b0]; exact hq.2.1)
        have HF : Hid (sp = false) := hf
        clear b0 b1 hB hf
        go_wp2_with fail
        go_meet
        case rel => exact ⟨by rw [HF.out], rfl⟩
    · have dA : decide ((1 : Int) < (rest.size : Int)) = false := decide_eq_false (by omega)
      have hf : sp = false := by
        rw [← HSp.out]; unfold spanB
        have := HRS.out
        refine decide_eq_false fun hq => by omega
      have HF : Hid (sp = false) := hf
      clear hf
      go_wp2_with fail
      go_meet
      case rel => exact ⟨by rw [HF.out], rfl⟩
  case rest =>
    obtain ⟨rfl, rfl⟩ := hcut
    go_upto_if 32 with fail
    go_cut [3] from 33 (fun v3 wx => v3 = .int .u8 E.1 ∧ E.1 < 256 ∧ Fr (On b) w wx ∧ It s md cs q fl E.2 b wx)
    case first =>
      cases sp with
      | true =>
        have hq := HSp.out
        unfold spanB at hq
        have hq := of_decide_eq_true hq
        have hk1 : k1 + 1 < s.size := hq.1
        have hE := HE.out
        rw [if_pos rfl] at hE
        have HS : Hid _ := skip_any H2.out.2 hs m2 ⟨#[45]⟩ (by decide) true (by
          unfold pfx Lib.hasPrefix
          have hb := hq.2.1
          rw [byteAt_eq s k1 (by omega)] at hb
          rw [List.drop_eq_getElem_cons (by rw [← Lib.size_eq]; omega)]
          simp only [List.isPrefixOf, Bool.and_true, beq_iff_eq]
          have : (s[k1]).toNat = 45 := hb
          exact (UInt8.toNat_inj.1 (by rw [show (s.data.toList[k1]'(by rw [← Lib.size_eq]; omega)) = s[k1] from rfl, this]; rfl)).symm)
        have HME : Hid (E.1 < 256 ∧ ∀ x, It s md cs q fl (k1 + 1) b x → Calls Tryz.prog 109 #[.pointer (some ⟨b, 0, none⟩)] x fun e w' => e = .returned (.int .u8 E.1) ∧ Fr (On b) x w' ∧ It s md cs q fl E.2 b w') := by
          rw [← hE]
          exact ⟨(memF_le hk1).2.2, fun x hx => member_any hx hs hk1⟩
        clear hq hE HE HSp
        go_wp2_with fail
        refine Calls.mono HS.out ?_
        rintro e w3 ⟨rfl, q1, q2⟩
        have H3 : Hid (Fr (On b) w w3 ∧ It s md cs q fl (k1 + 1) b w3) := ⟨H2.out.1.trans q1, q2⟩
        clear q1 q2
        go_wp2_with fail
        refine Calls.mono (HME.out.2 _ H3.out.2) ?_
        rintro e w4 ⟨rfl, q1, q2⟩
        have H4 : Hid (Fr (On b) w w4 ∧ It s md cs q fl E.2 b w4) := ⟨H3.out.1.trans q1, q2⟩
        clear q1 q2
        go_wp2_with fail
        go_meet
        case rel => exact ⟨rfl, HME.out.1, H4.out⟩
      | false =>
        have hE := HE.out
        rw [if_neg (by simp)] at hE
        subst hE
        clear HE HSp
        go_wp2_with fail
        go_meet
        case rel => exact ⟨rfl, m3, H2.out⟩
    case rest =>
      obtain ⟨rfl, hE2, hFr, hIt⟩ := hcut
      have H5 : Hid (Fr (On b) w wc ∧ It s md cs q fl E.2 b wc) := ⟨hFr, hIt⟩
      obtain ⟨E1, E2⟩ := E
      simp only at hE2 H5 ⊢
      clear hFr hIt HE H2
      by_cases hlt : E1 < a
      · have dl : decide ((E1 : Int) < (a : Int)) = true := decide_eq_true (by omega)
        have dl2 : decide ((a : Int) ≤ (E1 : Int)) = false := decide_eq_false (by omega)
        have f8 := H5.out.2.fz 8
        have g8 := H5.out.2.cells.2
        have H6 : Hid (Fr (On b) w (wc.setCell ⟨b, 8, none⟩ (.bool true)) ∧ It s md cs q true E2 b (wc.setCell ⟨b, 8, none⟩ (.bool true))) := ⟨H5.out.1.trans (fr_set _ _ _ _), H5.out.2.setFl true⟩
        have HZ : Hid (E1 + 1 - a = 0 ∧ (fl || decide (E1 < a)) = true) := ⟨by omega, by simp [hlt]⟩
        have dn : decide (E1 < a) = true := decide_eq_true hlt
        have dn2 : decide (a ≤ E1) = false := decide_eq_false (by omega)
        go_wp2_with fail
        go_loopw [5] (fun v5 wr => ∃ z : Nat, z ≤ 0 ∧ v5 = .int .i64 a ∧ wr = wc.setCell ⟨b, 8, none⟩ (.bool true)) (fun v5 _ => (intOf v5).toNat)
        case atStart => exact ⟨0, Nat.le_refl _, rfl, rfl⟩
        case round =>
          obtain ⟨_, _, rfl, rfl⟩ := hrel
          go_wp2_with fail
          go_end0
          exact ⟨rfl, H6.out.1, by rw [HZ.out.1]; first | exact H6.out.2 | (rw [HZ.out.2]; exact H6.out.2)⟩
      · have dl : decide ((E1 : Int) < (a : Int)) = false := decide_eq_false (by omega)
        have HZ : Hid ((fl || decide (E1 < a)) = fl) := by show (fl || decide (E1 < a)) = fl; simp [hlt]
        have dn : decide (E1 < a) = false := decide_eq_false hlt
        go_wp2_with fail
        go_loopw [5] (fun v5 wr => ∃ i : Nat, i ≤ E1 + 1 - a ∧ v5 = .int .i64 ((a + i : Nat) : Int) ∧ Fr (On b) w wr ∧ It s md cs (addTo q a i) fl E2 b wr) (fun v5 _ => E1 + 1 - (intOf v5).toNat)
        case atStart => exact ⟨0, Nat.zero_le _, rfl, H5.out.1, H5.out.2⟩
        case round =>
          obtain ⟨i, hi, rfl, hF, hI⟩ := hrel
          by_cases hle : a + i ≤ E1
          · obtain ⟨C, hC⟩ : ∃ C, a + i = C := ⟨_, rfl⟩
            have HC : Hid (a + i = C) := hC
            have dle : decide ((C : Int) ≤ (E1 : Int)) = true := decide_eq_true (by omega)
            have dle2 : decide (C ≤ E1) = true := decide_eq_true (by omega)
            have hCE : C ≤ E1 := by omega
            obtain ⟨P, hP⟩ : ∃ P, addTo q a i = P := ⟨_, rfl⟩
            have hPok : P.ok := by rw [← hP]; exact addTo_ok HH.out (by omega)
            have hC8 : C < 256 := by omega
            rw [hP] at hI
            rw [hC]
            obtain ⟨⟨c4, c5, c6, c7⟩, _⟩ := hI.cells
            have HW : Hid _ := kWith_any P hPok C hC8 wr
            obtain ⟨N, hN⟩ : ∃ N, withS P C = N := ⟨_, rfl⟩
            rw [hN] at HW
            have HN : Hid (addTo q a (i + 1) = N) := by
              show withS (addTo q a i) (a + i) = N
              rw [hP, hC, hN]
            have H6 : Hid (Fr (On b) w wr ∧ It s md cs P fl E2 b wr) := ⟨hF, hI⟩
            clear hF hI hC hP hN hle hPok
            go_wp2_with fail
            refine Calls.mono HW.out ?_
            rintro e w6 ⟨rfl, z⟩
            have H7 : Hid (Fr (On b) w w6 ∧ It s md cs P fl E2 b w6) := ⟨H6.out.1.trans (Fr.of_below z), H6.out.2.kp z⟩
            obtain ⟨⟨e4, e5, e6, e7⟩, _⟩ := H7.out.2.cells
            have f4 := H7.out.2.fz 4
            have f5 := H7.out.2.fz 5
            have f6 := H7.out.2.fz 6
            have f7 := H7.out.2.fz 7
            have H8 : Hid (Fr (On b) w ((((w6.setCell ⟨b, 4, none⟩ (.int .u64 N.a)).setCell ⟨b, 5, none⟩ (.int .u64 N.b)).setCell ⟨b, 6, none⟩ (.int .u64 N.c)).setCell ⟨b, 7, none⟩ (.int .u64 N.d)) ∧ It s md cs N fl E2 b ((((w6.setCell ⟨b, 4, none⟩ (.int .u64 N.a)).setCell ⟨b, 5, none⟩ (.int .u64 N.b)).setCell ⟨b, 6, none⟩ (.int .u64 N.c)).setCell ⟨b, 7, none⟩ (.int .u64 N.d))) := ⟨H7.out.1.trans (It.frQ N w6), H7.out.2.setQ N⟩
            clear z c4 c5 c6 c7
            go_wp2_with fail
            go_roundw
            case rel => exact ⟨i + 1, by have := HC.out; omega, by rw [show a + (i + 1) = C + 1 by have := HC.out; omega]; go_num, H8.out.1, by rw [HN.out]; exact H8.out.2⟩
            case measure => simp [intOf]; omega
          · have dle : decide (((a + i : Nat) : Int) ≤ (E1 : Int)) = false := decide_eq_false (by omega)
            have dle2 : decide (a + i ≤ E1) = false := decide_eq_false hle
            have HI : Hid (i = E1 + 1 - a) := by show i = E1 + 1 - a; omega
            have H6 : Hid (Fr (On b) w wr ∧ It s md cs (addTo q a i) fl E2 b wr) := ⟨hF, hI⟩
            obtain ⟨C, hC⟩ : ∃ C, a + i = C := ⟨_, rfl⟩
            have hCE : ¬ C ≤ E1 := by omega
            rw [hC] at dle dle2 ⊢
            clear hF hI hle hC
            go_wp2_with fail
            go_end0
            exact ⟨rfl, H6.out.1, by rw [← HI.out]; first | exact H6.out.2 | (rw [HZ.out]; exact H6.out.2)⟩
end
end Go.Proofs.YtpahpnajeliodaaGreatDoor
/- Named of package kind returns just the set of the bytes of its name (or nothing, false), and so does the document's; neither writes anything that was there. -/
namespace Go.Proofs.YtpahpnajeliodaaGreatDoor
open Go.ChangeShapes Go.WideShapes Go.ChangeAt Go.RowKit

/-- the test of a name -/
def nmN (l : List UInt8) : Option Nat :=
  if l = [97, 108, 112, 104, 97] then some 116 else if l = [100, 105, 103, 105, 116] then some 111 else if l = [97, 108, 110, 117, 109] then some 128 else if l = [108, 111, 119, 101, 114] then some 117 else if l = [117, 112, 112, 101, 114] then some 110 else if l = [98, 108, 97, 110, 107] then some 118 else if l = [115, 112, 97, 99, 101] then some 129 else if l = [120, 100, 105, 103, 105, 116] then some 112 else if l = [99, 110, 116, 114, 108] then some 130 else if l = [112, 117, 110, 99, 116] then some 131 else none
def nmB (l : List UInt8) (c : Int) : Bool :=
  if l = [97, 108, 112, 104, 97] then letB c else if l = [100, 105, 103, 105, 116] then digB c else if l = [97, 108, 110, 117, 109] then ladB c else if l = [108, 111, 119, 101, 114] then smlB c else if l = [117, 112, 112, 101, 114] then grtB c else if l = [98, 108, 97, 110, 107] then blkB c else if l = [115, 112, 97, 99, 101] then spcB c else if l = [120, 100, 105, 103, 105, 116] then hexB c else if l = [99, 110, 116, 114, 108] then ctlB c else if l = [112, 117, 110, 99, 116] then pctB c else false
def nmK (l : List UInt8) : Bool := (nmN l).isSome
theorem nm_some {l : List UInt8} {n : Nat} (h : nmN l = some n) : (l = [97, 108, 112, 104, 97] ∧ n = 116) ∨ (l = [100, 105, 103, 105, 116] ∧ n = 111) ∨ (l = [97, 108, 110, 117, 109] ∧ n = 128) ∨ (l = [108, 111, 119, 101, 114] ∧ n = 117) ∨ (l = [117, 112, 112, 101, 114] ∧ n = 110) ∨ (l = [98, 108, 97, 110, 107] ∧ n = 118) ∨ (l = [115, 112, 97, 99, 101] ∧ n = 129) ∨ (l = [120, 100, 105, 103, 105, 116] ∧ n = 112) ∨ (l = [99, 110, 116, 114, 108] ∧ n = 130) ∨ (l = [112, 117, 110, 99, 116] ∧ n = 131) := by
  unfold nmN at h
  by_cases h0 : l = [97, 108, 112, 104, 97]
  · rw [if_pos h0] at h
    cases h
    exact .inl ⟨h0, rfl⟩
  rw [if_neg h0] at h
  by_cases h1 : l = [100, 105, 103, 105, 116]
  · rw [if_pos h1] at h
    cases h
    exact .inr (.inl ⟨h1, rfl⟩)
  rw [if_neg h1] at h
  by_cases h2 : l = [97, 108, 110, 117, 109]
  · rw [if_pos h2] at h
    cases h
    exact .inr (.inr (.inl ⟨h2, rfl⟩))
  rw [if_neg h2] at h
  by_cases h3 : l = [108, 111, 119, 101, 114]
  · rw [if_pos h3] at h
    cases h
    exact .inr (.inr (.inr (.inl ⟨h3, rfl⟩)))
  rw [if_neg h3] at h
  by_cases h4 : l = [117, 112, 112, 101, 114]
  · rw [if_pos h4] at h
    cases h
    exact .inr (.inr (.inr (.inr (.inl ⟨h4, rfl⟩))))
  rw [if_neg h4] at h
  by_cases h5 : l = [98, 108, 97, 110, 107]
  · rw [if_pos h5] at h
    cases h
    exact .inr (.inr (.inr (.inr (.inr (.inl ⟨h5, rfl⟩)))))
  rw [if_neg h5] at h
  by_cases h6 : l = [115, 112, 97, 99, 101]
  · rw [if_pos h6] at h
    cases h
    exact .inr (.inr (.inr (.inr (.inr (.inr (.inl ⟨h6, rfl⟩))))))
  rw [if_neg h6] at h
  by_cases h7 : l = [120, 100, 105, 103, 105, 116]
  · rw [if_pos h7] at h
    cases h
    exact .inr (.inr (.inr (.inr (.inr (.inr (.inr (.inl ⟨h7, rfl⟩)))))))
  rw [if_neg h7] at h
  by_cases h8 : l = [99, 110, 116, 114, 108]
  · rw [if_pos h8] at h
    cases h
    exact .inr (.inr (.inr (.inr (.inr (.inr (.inr (.inr (.inl ⟨h8, rfl⟩))))))))
  rw [if_neg h8] at h
  by_cases h9 : l = [112, 117, 110, 99, 116]
  · rw [if_pos h9] at h
    cases h
    exact .inr (.inr (.inr (.inr (.inr (.inr (.inr (.inr (.inr (⟨h9, rfl⟩)))))))))
  rw [if_neg h9] at h
  cases h
theorem nm_none {l : List UInt8} (h : nmN l = none) : (l == [97, 108, 112, 104, 97]) = false ∧ (l == [100, 105, 103, 105, 116]) = false ∧ (l == [97, 108, 110, 117, 109]) = false ∧ (l == [108, 111, 119, 101, 114]) = false ∧ (l == [117, 112, 112, 101, 114]) = false ∧ (l == [98, 108, 97, 110, 107]) = false ∧ (l == [115, 112, 97, 99, 101]) = false ∧ (l == [120, 100, 105, 103, 105, 116]) = false ∧ (l == [99, 110, 116, 114, 108]) = false ∧ (l == [112, 117, 110, 99, 116]) = false := by
  have q : ∀ m : List UInt8, nmN m ≠ none → (l == m) = false := fun m hm => by
    rw [beq_eq_false_iff_ne]
    intro e
    rw [e] at h
    exact hm h
  exact ⟨q _ (by decide), q _ (by decide), q _ (by decide), q _ (by decide), q _ (by decide), q _ (by decide), q _ (by decide), q _ (by decide), q _ (by decide), q _ (by decide)⟩
theorem nmB_none {l : List UInt8} (h : nmN l = none) (c : Int) : nmB l c = false := by
  obtain ⟨h0, h1, h2, h3, h4, h5, h6, h7, h8, h9⟩ := nm_none h
  simp only [beq_eq_false_iff_ne, ne_eq] at h0 h1 h2 h3 h4 h5 h6 h7 h8 h9
  simp only [nmB, h0, h1, h2, h3, h4, h5, h6, h7, h8, h9, if_false]
theorem nameTest_no {s : ByteArray} (h : nmN s.toList = none) (w : World) :
    Calls Tryz.prog 124 #[.string s] w fun e w' => e = .returned .nilFunc ∧ w' = w := by
  obtain ⟨h0, h1, h2, h3, h4, h5, h6, h7, h8, h9⟩ := nm_none h
  clear h
  go_enter Tryz.func124, Tryz.ntmps124
  go_wp2
  go_ret
  exact ⟨rfl, rfl⟩
theorem nameTest_yes {s : ByteArray} {n : Nat} (h : nmN s.toList = some n) (w : World) :
    Calls Tryz.prog 124 #[.string s] w fun e w' => e = .returned (.func (Fn.func n) #[] #[]) ∧ w' = w := by
  rcases nm_some h with ⟨hs, rfl⟩ | ⟨hs, rfl⟩ | ⟨hs, rfl⟩ | ⟨hs, rfl⟩ | ⟨hs, rfl⟩ | ⟨hs, rfl⟩ | ⟨hs, rfl⟩ | ⟨hs, rfl⟩ | ⟨hs, rfl⟩ | ⟨hs, rfl⟩
  all_goals
    clear h
    go_enter Tryz.func124, Tryz.ntmps124
    go_wp2
    go_ret
    exact ⟨rfl, rfl⟩
theorem neq_nil (w : World) : Sem.run Tryz.prog (binOp BinOp.neq 143 Value.nilFunc Value.nilFunc) w = .ok (.bool false) w := by kernel_rfl
theorem neq_fn (n : Nat) (w : World) : Sem.run Tryz.prog (binOp BinOp.neq 143 (Value.func (Fn.func n) #[] #[]) Value.nilFunc) w = .ok (.bool true) w := by kernel_rfl
theorem namedGroup_no {s : ByteArray} (h : nmN s.toList = none) (w : World) :
    Calls Tryz.prog 121 #[.string s] w fun e w' => e = .returned (.tuple #[.agg #[.nilFunc, .bool false], .bool false]) ∧ Below w.heap.size w w' := by
  have hq := neq_nil
  go_enter Tryz.func121, Tryz.ntmps121
  go_wp2_with (go_at_call 124; refine (nameTest_no h _).mono ?_; rintro e w' ⟨rfl, rfl⟩)
  exact bodyPost_ret (v := .tuple #[.agg #[.nilFunc, .bool false], .bool false]) (by simp [results, Tryz.results121, go_sem]) rfl ⟨rfl, bw_alloc (Below.refl _ _) _⟩
theorem namedGroup_yes {s : ByteArray} {n : Nat} (h : nmN s.toList = some n) (w : World) :
    Calls Tryz.prog 121 #[.string s] w fun e w' => e = .returned (.tuple #[.agg #[.func (Fn.func n) #[] #[], .bool false], .bool true]) ∧ Below w.heap.size w w' := by
  have hq := neq_fn n
  go_enter Tryz.func121, Tryz.ntmps121
  go_wp2_with (go_at_call 124; refine (nameTest_yes h _).mono ?_; rintro e w' ⟨rfl, rfl⟩)
  exact bodyPost_ret (v := .tuple #[.agg #[.func (Fn.func n) #[] #[], .bool false], .bool true]) (by simp [results, Tryz.results121, go_sem]) rfl ⟨rfl, bw_alloc (Below.refl _ _) _⟩
theorem gname_any {l : List UInt8} {n : Nat} (h : nmN l = some n) (c : Int) (w : World) :
    Calls Tryz.prog 98 #[.agg #[.func (Fn.func n) #[] #[], .bool false], .int .u8 c] w fun e w' => e = .returned (.bool (nmB l c)) ∧ Below w.heap.size w w' := by
  rcases nm_some h with ⟨rfl, rfl⟩ | ⟨rfl, rfl⟩ | ⟨rfl, rfl⟩ | ⟨rfl, rfl⟩ | ⟨rfl, rfl⟩ | ⟨rfl, rfl⟩ | ⟨rfl, rfl⟩ | ⟨rfl, rfl⟩ | ⟨rfl, rfl⟩ | ⟨rfl, rfl⟩
  · rw [show nmB [97, 108, 112, 104, 97] c = (letB c != false) from by rw [Bool.bne_false]; rfl]
    exact ghas_isLetter false c w
  · rw [show nmB [100, 105, 103, 105, 116] c = (digB c != false) from by rw [Bool.bne_false]; rfl]
    exact ghas_isDigit false c w
  · rw [show nmB [97, 108, 110, 117, 109] c = (ladB c != false) from by rw [Bool.bne_false]; rfl]
    exact ghas_isLetterOrDigit false c w
  · rw [show nmB [108, 111, 119, 101, 114] c = (smlB c != false) from by rw [Bool.bne_false]; rfl]
    exact ghas_isSmall false c w
  · rw [show nmB [117, 112, 112, 101, 114] c = (grtB c != false) from by rw [Bool.bne_false]; rfl]
    exact ghas_isGreat false c w
  · rw [show nmB [98, 108, 97, 110, 107] c = (blkB c != false) from by rw [Bool.bne_false]; rfl]
    exact ghas_isBlank false c w
  · rw [show nmB [115, 112, 97, 99, 101] c = (spcB c != false) from by rw [Bool.bne_false]; rfl]
    exact ghas_isSpace false c w
  · rw [show nmB [120, 100, 105, 103, 105, 116] c = (hexB c != false) from by rw [Bool.bne_false]; rfl]
    exact ghas_isHex false c w
  · rw [show nmB [99, 110, 116, 114, 108] c = (ctlB c != false) from by rw [Bool.bne_false]; rfl]
    exact ghas_isControl false c w
  · rw [show nmB [112, 117, 110, 99, 116] c = (pctB c != false) from by rw [Bool.bne_false]; rfl]
    exact ghas_isPunct false c w

theorem kNamed_no {s : ByteArray} (h : nmN s.toList = none) (w : World) :
    Calls Tryz.prog 107 #[.string s] w fun e w' => e = .returned (.tuple #[.agg #[.int .u64 0, .int .u64 0, .int .u64 0, .int .u64 0], .bool false]) ∧ Below w.heap.size w w' := by
  go_enter Tryz.func107, Tryz.ntmps107
  go_wp2_with fail
  refine (namedGroup_no h _).mono ?_
  rintro e w1 ⟨rfl, hb1⟩
  have b1 : Box w1 w.heap.size zeroS := (box_new w zeroS 70).below hb1 (by simp only [size_alloc]; omega)
  have o1 : Open w1 w.heap.size := (open_new w _ 70).below hb1 (by simp only [size_alloc]; omega)
  have hz : w.heap.size < w1.heap.size := by have := hb1.size; rw [size_alloc] at this; omega
  have hb : Below w.heap.size w w1 := bw_trans (bw_alloc (Below.refl _ _) _) hb1
  have bz := (b1.put4 zeroS).alloc (by rw [size_put4]; exact hz) (.cells #[.nilFunc, .bool false] 145)
  obtain ⟨c0, c1, c2, c3⟩ := b1
  obtain ⟨f0, f1, f2, f3⟩ := o1
  clear hb1
  have HZ : Hid (Box ((put4 w1 w.heap.size zeroS).alloc (.cells #[.nilFunc, .bool false] 145)) w.heap.size zeroS) := bz
  clear bz
  go_wp2
  show bodyPost _ _ _ _ _ ((put4 w1 w.heap.size zeroS).alloc (.cells #[.nilFunc, .bool false] 145))
  obtain ⟨r0, r1, r2, r3⟩ := HZ.out
  have hbl := bw_alloc (below_put4 hb (Nat.le_refl _) zeroS) (.cells #[.nilFunc, .bool false] 145)
  generalize (put4 w1 w.heap.size zeroS).alloc (.cells #[.nilFunc, .bool false] 145) = wz at *
  exact bodyPost_ret (v := .tuple #[.agg #[.int .u64 zeroS.a, .int .u64 zeroS.b, .int .u64 zeroS.c, .int .u64 zeroS.d], .bool false]) (by simp [results, Tryz.results107, go_sem, r0, r1, r2, r3]) rfl ⟨rfl, hbl⟩
theorem kNamed_yes {s : ByteArray} {n : Nat} (h : nmN s.toList = some n) (w : World) :
    Calls Tryz.prog 107 #[.string s] w fun e w' =>
      e = .returned (.tuple #[.agg #[.int .u64 (foldS (nmB s.toList) 256).a, .int .u64 (foldS (nmB s.toList) 256).b, .int .u64 (foldS (nmB s.toList) 256).c, .int .u64 (foldS (nmB s.toList) 256).d], .bool true]) ∧ Below w.heap.size w w' := by
  have hh : Hid (∀ (c : Nat) (w : World), c < 256 → Calls Tryz.prog 98 #[.agg #[.func (Fn.func n) #[] #[], .bool false], .int .u8 c] w fun e w' => e = .returned (.bool (nmB s.toList c)) ∧ Below w.heap.size w w') :=
    fun c w _ => gname_any h c w
  generalize hl : nmB s.toList = f at *
  clear hl
  go_enter Tryz.func107, Tryz.ntmps107
  go_wp2_with fail
  refine (namedGroup_yes h _).mono ?_
  rintro e w1 ⟨rfl, hb1⟩
  have b1 : Box w1 w.heap.size zeroS := (box_new w zeroS 70).below hb1 (by simp only [size_alloc]; omega)
  have o1 : Open w1 w.heap.size := (open_new w _ 70).below hb1 (by simp only [size_alloc]; omega)
  have hz : w.heap.size < w1.heap.size := by have := hb1.size; rw [size_alloc] at this; omega
  have hb : Below w.heap.size w w1 := bw_trans (bw_alloc (Below.refl _ _) _) hb1
  clear hb1
  go_wp2_with fail
  refine (gather_any f _ hh _).mono ?_
  rintro e w2 ⟨rfl, hb2⟩
  have b2 : Box w2 w.heap.size zeroS := (b1.alloc hz _).below hb2 (by simp only [size_alloc]; omega)
  have o2 : Open w2 w.heap.size := (o1.below (bw_alloc (Below.refl _ _) _) hz).below hb2 (by simp only [size_alloc]; omega)
  have hb' : Below w.heap.size w w2 := bw_trans (bw_alloc hb _) hb2
  obtain ⟨r0, r1, r2, r3⟩ := b2.put4 (foldS f 256)
  have R0 : Hid _ := r0
  have R1 : Hid _ := r1
  have R2 : Hid _ := r2
  have R3 : Hid _ := r3
  obtain ⟨c0, c1, c2, c3⟩ := b2
  obtain ⟨f0, f1, f2, f3⟩ := o2
  clear hb2 b1 o1 hb r0 r1 r2 r3
  go_wp2
  show bodyPost _ _ _ _ _ (put4 w2 w.heap.size (foldS f 256))
  have hbl := below_put4 hb' (Nat.le_refl _) (foldS f 256)
  have r0 := R0.out
  have r1 := R1.out
  have r2 := R2.out
  have r3 := R3.out
  clear R0 R1 R2 R3
  generalize put4 w2 w.heap.size (foldS f 256) = wz at *
  generalize foldS f 256 = t at *
  exact bodyPost_ret (v := .tuple #[.agg #[.int .u64 t.a, .int .u64 t.b, .int .u64 t.c, .int .u64 t.d], .bool true]) (by simp [results, Tryz.results107, go_sem, r0, r1, r2, r3]) rfl ⟨rfl, hbl⟩
theorem kNamed_any (s : ByteArray) (w : World) :
    Calls Tryz.prog 107 #[.string s] w fun e w' =>
      e = .returned (.tuple #[.agg #[.int .u64 (foldS (nmB s.toList) 256).a, .int .u64 (foldS (nmB s.toList) 256).b, .int .u64 (foldS (nmB s.toList) 256).c, .int .u64 (foldS (nmB s.toList) 256).d], .bool (nmK s.toList)]) ∧ Below w.heap.size w w' := by
  unfold nmK
  cases h : nmN s.toList with
  | none =>
    rw [fold_none (nmB_none h) 256]
    exact kNamed_no h w
  | some n => exact kNamed_yes h w

end Go.Proofs.YtpahpnajeliodaaGreatDoor
/-
  DERIVED: THE SHELF's CONTRACTS AT THIS DUMP, IN PLAIN WORDS (tools/lay-plain.mjs out of 'YtpahpnajeliodaaGreatDoorPShelf.lean', which tools/lay-shelf.mjs wrote): THE SAME DECLARATIONS UNDER THE SAME NAMES: 'import', 'namespace', 'open', 'def', 'theorem' AND NOTHING ELSE: no command of the shelf's: FOR A HAND-IN. Each laying: the table of numbers ('.._ren') and one theorem, a field a fact of the dump's own or the kernel's comparison; each contract: ONE APPLICATION.
-/
namespace Go.Proofs
open Go.Shelf
def Tryz.lays145_ren : Go.Shelf.Ren := ⟨fun | 145 => 106 | 220 => 120 | 219 => 123 | 217 => 73 | 225 => 125 | 224 => 126 | 267 => 127 | 266 => 91 | 314 => 132 | n => n, fun | 9 => 9 | 4 => 4 | 59 => 158 | 3 => 3 | 5 => 5 | 46 => 114 | 146 => 132 | 51 => 112 | n => n, fun | 1 => 3 | n => n⟩
theorem Tryz.lays145 : Go.Proofs.Lays.n145 Tryz.prog Tryz.lays145_ren := {
  mixed := by kernel_rfl
  f145 := Tryz.func106.trans (congrArg some (by kernel_rfl))
  f217 := Tryz.func73.trans (congrArg some (by kernel_rfl))
  f219 := Tryz.func123.trans (congrArg some (by kernel_rfl))
  f220 := Tryz.func120.trans (congrArg some (by kernel_rfl))
  f224 := Tryz.func126.trans (congrArg some (by kernel_rfl))
  f225 := Tryz.func125.trans (congrArg some (by kernel_rfl))
  f266 := Tryz.func91.trans (congrArg some (by kernel_rfl))
  f267 := Tryz.func127.trans (congrArg some (by kernel_rfl))
  f314 := Tryz.func132.trans (congrArg some (by kernel_rfl))
  t3 := Tryz.underlying3
  a3 := Tryz.isAgg3
  z3 := Tryz.sizeOf3
  v3 := Tryz.zeroValue3
  t4 := Tryz.underlying4
  a4 := Tryz.isAgg4
  z4 := Tryz.sizeOf4
  v4 := Tryz.zeroValue4
  t5 := Tryz.underlying5
  a5 := Tryz.isAgg5
  z5 := Tryz.sizeOf5
  v5 := Tryz.zeroValue5
  t9 := Tryz.underlying9
  a9 := Tryz.isAgg9
  z9 := Tryz.sizeOf9
  v9 := Tryz.zeroValue9
  t46 := Tryz.underlying114
  a46 := Tryz.isAgg114
  z46 := Tryz.sizeOf114
  v46 := Tryz.zeroValue114
  t51 := Tryz.underlying112
  a51 := Tryz.isAgg112
  z51 := Tryz.sizeOf112
  v51 := Tryz.zeroValue112
  t59 := Tryz.underlying158
  a59 := Tryz.isAgg158
  z59 := Tryz.sizeOf158
  v59 := Tryz.zeroValue158
  t146 := Tryz.underlying132
  a146 := Tryz.isAgg132
  z146 := Tryz.sizeOf132
  v146 := Tryz.zeroValue132
  g1 := by kernel_rfl }
end Go.Proofs
/- A collection's items: named. -/
namespace Go.Proofs.YtpahpnajeliodaaGreatDoor
open Go.ChangeShapes Go.WideShapes Go.ChangeAt Go.RowKit
set_option linter.unusedVariables false
set_option linter.unusedSimpArgs false
theorem hasPrefixL_any (s p : ByteArray) (w : World) :
    Calls Tryz.prog 88 #[.string s, .string p] w fun e w' => e = .returned (.bool (Lib.hasPrefix s.data.toList p.data.toList)) ∧ w' = w := by
  rw [← Lib.hasPrefix_of_take, ← Lib.size_eq, ← Lib.size_eq]
  go_enter Tryz.func88, Tryz.ntmps88
  go_wp2
  · rename_i h
    go_ret
    refine ⟨?_, rfl⟩
    show Ending.returned (Value.bool ((s.extract 0 p.size).toList == p.toList)) = _
    rw [Lib.extract_toList, Lib.toList_data]
    simp [h]
  · rename_i h
    go_ret
    refine ⟨?_, rfl⟩
    show Ending.returned (Value.bool false) = _
    simp [h]
theorem cutPrefixL_yes (s p : ByteArray) (w : World) (h : Lib.hasPrefix s.data.toList p.data.toList = true) (hl : p.size ≤ s.size) (hs : s.size < 1000000) :
    Calls Tryz.prog 119 #[.string s, .string p] w fun e w' => e = .returned (.tuple #[.string (s.extract p.size s.size), .bool true]) ∧ w' = w := by
  have HH := fun (x : World) => hasPrefixL_any s p x
  rw [h] at HH
  have HH' : Hid _ := HH
  clear HH h
  go_enter Tryz.func119, Tryz.ntmps119
  go_wp2_with (go_at_call 88; refine Calls.mono (HH'.out _) ?_; rintro e _ ⟨rfl, rfl⟩)
  go_ret2
  exact ⟨rfl, rfl⟩
theorem cutPrefixL_no (s p : ByteArray) (w : World) (h : Lib.hasPrefix s.data.toList p.data.toList = false) :
    Calls Tryz.prog 119 #[.string s, .string p] w fun e w' => e = .returned (.tuple #[.string s, .bool false]) ∧ w' = w := by
  have HH := fun (x : World) => hasPrefixL_any s p x
  rw [h] at HH
  have HH' : Hid _ := HH
  clear HH h
  go_enter Tryz.func119, Tryz.ntmps119
  go_wp2_with (go_at_call 88; refine Calls.mono (HH'.out _) ?_; rintro e _ ⟨rfl, rfl⟩)
  go_ret2
  exact ⟨rfl, rfl⟩
theorem cutPrefix_of {s p : ByteArray} {v : Value} {w : World} (h : Calls Tryz.prog 119 #[.string s, .string p] w fun e w' => e = .returned v ∧ w' = w) (t : ByteArray) (y : Bool) (hv : v = .tuple #[.string t, .bool y]) :
    Calls Tryz.prog 105 #[.string s, .string p] w fun e w' => e = .returned (.tuple #[.string t, .bool y]) ∧ w' = w := by
  subst hv
  have HH : Hid _ := h
  clear h
  go_enter Tryz.func105, Tryz.ntmps105
  go_wp2_with (go_at_call 119; refine Calls.mono HH.out ?_; rintro e _ ⟨rfl, rfl⟩)
  go_ret2
  exact ⟨rfl, rfl⟩
theorem cut_any (s sep : ByteArray) (m : Int) (w : World) (hs : s.size < 4294967281) (hm : w.cell? ⟨3, 0, none⟩ = some (.int .i64 m)) :
    Calls Tryz.prog 106 #[.string s, .string sep] w fun e w' => e = .returned (.tuple #[.string ⟨(Lib.cut s.data.toList sep.data.toList).1.toArray⟩, .string ⟨(Lib.cut s.data.toList sep.data.toList).2.1.toArray⟩, .bool (Lib.cut s.data.toList sep.data.toList).2.2]) ∧ ∃ n, w' = w.drewN n :=
  Any.strings_Cut Tryz.lays145 s sep m w hs hm
end Go.Proofs.YtpahpnajeliodaaGreatDoor
/- A collection's items: named. -/
namespace Go.Proofs.YtpahpnajeliodaaGreatDoor
open Go.ChangeShapes Go.WideShapes Go.ChangeAt Go.RowKit
set_option linter.unusedVariables false
set_option linter.unusedSimpArgs false
def opN : ByteArray := ⟨#[91, 58]⟩
def clN : ByteArray := ⟨#[58, 93]⟩
/-- The name of a set, at a place. -/
def namF (s : ByteArray) (k : Nat) : Option (List UInt8) :=
  if pfx s k opN then
    if (Lib.cut (s.data.toList.drop (k + 2)) clN.data.toList).2.2 then
      if nmK (Lib.cut (s.data.toList.drop (k + 2)) clN.data.toList).1 then some (Lib.cut (s.data.toList.drop (k + 2)) clN.data.toList).1 else none
    else none
  else none
def namS (s : ByteArray) (k : Nat) (q : S4) : Bool × S4 × Nat :=
  match namF s k with
  | none => (false, q, k)
  | some l => (true, bothS q (foldS (nmB l) 256), k + (l.length + 4))
theorem cut_whole {l sep : List UInt8} (h : (Lib.cut l sep).2.2 = true) : l = (Lib.cut l sep).1 ++ (sep ++ (Lib.cut l sep).2.1) := by
  unfold Lib.cut at h ⊢
  rcases Lib.index_spec l sep with ⟨h1, _⟩ | ⟨i, h1, h2, h3, _⟩
  · rw [h1] at h; simp at h
  · rw [h1]
    rw [if_pos (by omega)]
    simp only [Int.toNat_natCast]
    have h3' : sep.isPrefixOf (l.drop i) = true := h3
    obtain ⟨t, ht⟩ := List.isPrefixOf_iff_prefix.1 h3'
    have : l.drop (i + sep.length) = t := by rw [← List.drop_drop, ← ht]; simp
    rw [this, ht, List.take_append_drop]
theorem pfx_len {s : ByteArray} {k : Nat} {t : ByteArray} (h : pfx s k t = true) (hk : k ≤ s.size) : k + t.size ≤ s.size := by
  unfold pfx Lib.hasPrefix at h
  have := (List.isPrefixOf_iff_prefix.1 h).length_le
  rw [List.length_drop, ← Lib.size_eq, ← Lib.size_eq] at this
  omega
theorem nam_pfx {s : ByteArray} {k : Nat} {l : List UInt8} (h : namF s k = some l) (hk : k ≤ s.size) :
    pfx s k ⟨(opN.data.toList ++ (l ++ clN.data.toList)).toArray⟩ = true ∧ k + (l.length + 4) ≤ s.size := by
  unfold namF at h
  split at h
  · rename_i h1
    split at h
    · rename_i h2
      split at h
      · injection h with h
        have hc := cut_whole h2
        rw [h] at hc
        generalize (Lib.cut (s.data.toList.drop (k + 2)) clN.data.toList).2.1 = r at hc
        have hp : pfx s k ⟨(opN.data.toList ++ (l ++ clN.data.toList)).toArray⟩ = true := by
          unfold pfx Lib.hasPrefix at h1 ⊢
          obtain ⟨t, ht⟩ := List.isPrefixOf_iff_prefix.1 h1
          have h3 : s.data.toList.drop (k + 2) = t := by rw [← List.drop_drop, ← ht]; rfl
          rw [h3] at hc
          refine List.isPrefixOf_iff_prefix.2 ⟨r, ?_⟩
          rw [← ht, hc]
          simp
        refine ⟨hp, ?_⟩
        have := pfx_len hp hk
        have e : (ByteArray.mk (opN.data.toList ++ (l ++ clN.data.toList)).toArray).size = l.length + 4 := by
          rw [Lib.size_eq]; simp [opN, clN]
        rw [e] at this
        exact this
      · cases h
    · cases h
  · cases h
theorem namS_le {s : ByteArray} {k : Nat} (q : S4) (hk : k ≤ s.size) : k ≤ (namS s k q).2.2 ∧ (namS s k q).2.2 ≤ s.size ∧ ((namS s k q).1 = true → k < (namS s k q).2.2) := by
  unfold namS
  cases h : namF s k with
  | none => exact ⟨Nat.le_refl _, hk, fun h => by cases h⟩
  | some l =>
    have := (nam_pfx h hk).2
    exact ⟨by simp only; omega, by simp only; omega, fun _ => by simp only; omega⟩
section
variable {s md : ByteArray} {k cs b : Nat} {q : S4} {fl : Bool} {w : World} {m : Int}
set_option maxHeartbeats 4000000 in
set_option maxRecDepth 100000 in
theorem named_no1 (h : It s md cs q fl k b w) (hs : s.size ≤ 400) (hk : k < s.size) (hp : pfx s k opN = false) :
    Calls Tryz.prog 100 #[.pointer (some ⟨b, 0, none⟩)] w fun e w' => e = .returned (.bool false) ∧ Fr (On b) w w' ∧ It s md cs q fl k b w' := by
  have HF : Hid (∀ n, Fr (On b) w (w.drewN n) ∧ It s md cs q fl k b (w.drewN n)) := fun n => ⟨Fr.drewN _ _ _, Scn.drewN h n⟩
  have d0 := h.c0
  have d1 := h.c1
  have HC : Hid (∀ x, Calls Tryz.prog 105 #[.string (s.extract k s.size), .string ⟨#[91, 58]⟩] x fun e w' => e = .returned (.tuple #[.string (s.extract k s.size), .bool false]) ∧ w' = x) := fun x =>
    cutPrefix_of (cutPrefixL_no _ _ x (by rw [Lib.extract_to_end]; exact hp)) _ _ rfl
  clear h hp
  go_enter Tryz.func100, Tryz.ntmps100
  go_wp2_with fail
  go_quiet ((go_at_call 105; exact Calls.quiet_of_same (HC.out _)))
  go_wp2_with fail
  go_ret
  exact ⟨rfl, HF.out _⟩
set_option maxHeartbeats 4000000 in
set_option maxRecDepth 100000 in
theorem named_no2 (h : It s md cs q fl k b w) (hs : s.size ≤ 400) (hk : k < s.size) (hm : w.cell? ⟨3, 0, none⟩ = some (.int .i64 m)) (hp : pfx s k opN = true)
    (hc : (Lib.cut (s.data.toList.drop (k + 2)) clN.data.toList).2.2 = false) :
    Calls Tryz.prog 100 #[.pointer (some ⟨b, 0, none⟩)] w fun e w' => e = .returned (.bool false) ∧ Fr (On b) w w' ∧ It s md cs q fl k b w' := by
  have HF : Hid (∀ n, Fr (On b) w (w.drewN n) ∧ It s md cs q fl k b (w.drewN n)) := fun n => ⟨Fr.drewN _ _ _, Scn.drewN h n⟩
  have d0 := h.c0
  have d1 := h.c1
  have hl := pfx_len hp (by omega)
  have hl2 : k + 2 ≤ s.size := hl
  obtain ⟨R, hR⟩ : ∃ R, (s.extract k s.size).extract 2 (s.extract k s.size).size = R := ⟨_, rfl⟩
  have hRd : R.data.toList = s.data.toList.drop (k + 2) := by rw [← hR, Lib.extract_to_end, Lib.extract_to_end, List.drop_drop]
  have hRs : R.size < 4294967281 := by
    rw [Lib.size_eq, hRd, List.length_drop, ← Lib.size_eq]; omega
  have HC : Hid (∀ x, Calls Tryz.prog 105 #[.string (s.extract k s.size), .string ⟨#[91, 58]⟩] x fun e w' => e = .returned (.tuple #[.string R, .bool true]) ∧ w' = x) := fun x =>
    cutPrefix_of (cutPrefixL_yes _ _ x (by rw [Lib.extract_to_end]; exact hp) (by rw [ByteArray.size_extract]; show 2 ≤ _; omega) (by rw [ByteArray.size_extract]; omega)) _ _ (by rw [← hR]; rfl)
  have HM : Hid (∀ n, (w.drewN n).cell? ⟨3, 0, none⟩ = some (.int .i64 m)) := fun n => by rw [← hm]; simp [World.cell?, drewN_heap]
  obtain ⟨l, hl1⟩ : ∃ l, (Lib.cut (s.data.toList.drop (k + 2)) clN.data.toList).1 = l := ⟨_, rfl⟩
  obtain ⟨c, hc1⟩ : ∃ c, (Lib.cut (s.data.toList.drop (k + 2)) clN.data.toList).2.1 = c := ⟨_, rfl⟩
  have HU : Hid (∀ x : World, x.cell? ⟨3, 0, none⟩ = some (.int .i64 m) → Calls Tryz.prog 106 #[.string R, .string ⟨#[58, 93]⟩] x fun e w' => e = .returned (.tuple #[.string ⟨l.toArray⟩, .string ⟨c.toArray⟩, .bool false]) ∧ ∃ n, w' = x.drewN n) := fun x hx => by
    have := cut_any R clN m x hRs hx
    rw [hRd, hc, hl1, hc1] at this
    exact this
  clear h hp hR hRd hc hl1 hc1 hm
  go_enter Tryz.func100, Tryz.ntmps100
  go_wp2_with fail
  go_quiet ((go_at_call 105; exact Calls.quiet_of_same (HC.out _)))
  go_wp2_with fail
  refine Calls.mono (HU.out _ (HM.out _)) ?_
  rintro e _ ⟨rfl, n2, rfl⟩
  go_wp2_with fail
  go_ret
  exact ⟨rfl, HF.out _⟩
set_option maxHeartbeats 4000000 in
set_option maxRecDepth 100000 in
theorem named_no3 (h : It s md cs q fl k b w) (hs : s.size ≤ 400) (hk : k < s.size) (hm : w.cell? ⟨3, 0, none⟩ = some (.int .i64 m)) (hp : pfx s k opN = true)
    (hc : (Lib.cut (s.data.toList.drop (k + 2)) clN.data.toList).2.2 = true) (hn : nmK (Lib.cut (s.data.toList.drop (k + 2)) clN.data.toList).1 = false) :
    Calls Tryz.prog 100 #[.pointer (some ⟨b, 0, none⟩)] w fun e w' => e = .returned (.bool false) ∧ Fr (On b) w w' ∧ It s md cs q fl k b w' := by
  have HF : Hid (∀ n, Fr (On b) w (w.drewN n) ∧ It s md cs q fl k b (w.drewN n)) := fun n => ⟨Fr.drewN _ _ _, Scn.drewN h n⟩
  have d0 := h.c0
  have d1 := h.c1
  have hl := pfx_len hp (by omega)
  have hl2 : k + 2 ≤ s.size := hl
  obtain ⟨R, hR⟩ : ∃ R, (s.extract k s.size).extract 2 (s.extract k s.size).size = R := ⟨_, rfl⟩
  have hRd : R.data.toList = s.data.toList.drop (k + 2) := by rw [← hR, Lib.extract_to_end, Lib.extract_to_end, List.drop_drop]
  have hRs : R.size < 4294967281 := by
    rw [Lib.size_eq, hRd, List.length_drop, ← Lib.size_eq]; omega
  have HC : Hid (∀ x, Calls Tryz.prog 105 #[.string (s.extract k s.size), .string ⟨#[91, 58]⟩] x fun e w' => e = .returned (.tuple #[.string R, .bool true]) ∧ w' = x) := fun x =>
    cutPrefix_of (cutPrefixL_yes _ _ x (by rw [Lib.extract_to_end]; exact hp) (by rw [ByteArray.size_extract]; show 2 ≤ _; omega) (by rw [ByteArray.size_extract]; omega)) _ _ (by rw [← hR]; rfl)
  have HM : Hid (∀ n, (w.drewN n).cell? ⟨3, 0, none⟩ = some (.int .i64 m)) := fun n => by rw [← hm]; simp [World.cell?, drewN_heap]
  obtain ⟨l, hl1⟩ : ∃ l, (Lib.cut (s.data.toList.drop (k + 2)) clN.data.toList).1 = l := ⟨_, rfl⟩
  obtain ⟨c, hc1⟩ : ∃ c, (Lib.cut (s.data.toList.drop (k + 2)) clN.data.toList).2.1 = c := ⟨_, rfl⟩
  have HU : Hid (∀ x : World, x.cell? ⟨3, 0, none⟩ = some (.int .i64 m) → Calls Tryz.prog 106 #[.string R, .string ⟨#[58, 93]⟩] x fun e w' => e = .returned (.tuple #[.string ⟨l.toArray⟩, .string ⟨c.toArray⟩, .bool true]) ∧ ∃ n, w' = x.drewN n) := fun x hx => by
    have := cut_any R clN m x hRs hx
    rw [hRd, hc, hl1, hc1] at this
    exact this
  rw [hl1] at hn
  obtain ⟨Q, hQ⟩ : ∃ Q, foldS (nmB l) 256 = Q := ⟨_, rfl⟩
  have HN : Hid (∀ x, Calls Tryz.prog 107 #[.string ⟨l.toArray⟩] x fun e w' => e = .returned (.tuple #[.agg #[.int .u64 Q.a, .int .u64 Q.b, .int .u64 Q.c, .int .u64 Q.d], .bool false]) ∧ Kp x w') := fun x => by
    have := kNamed_any ⟨l.toArray⟩ x
    rw [Lib.toList_data] at this
    rw [show (ByteArray.mk l.toArray).data.toList = l from rfl, hn, hQ] at this
    exact this
  have HF2 : Hid (∀ x, It s md cs q fl k b x → Fr (On b) w x → ∀ y, Kp x y → Fr (On b) w y ∧ It s md cs q fl k b y) := fun x h1 h2 y h3 => ⟨h2.trans (Fr.of_below h3), h1.kp h3⟩
  clear h hp hR hRd hc hl1 hc1 hm hn hQ
  go_enter Tryz.func100, Tryz.ntmps100
  go_wp2_with fail
  go_quiet ((go_at_call 105; exact Calls.quiet_of_same (HC.out _)))
  go_wp2_with fail
  refine Calls.mono (HU.out _ (HM.out _)) ?_
  rintro e _ ⟨rfl, n2, rfl⟩
  go_wp2_with fail
  refine Calls.mono (HN.out _) ?_
  rintro e w3 ⟨rfl, z⟩
  have H3 : Hid _ := HF2.out _ (HF.out _).2 (HF.out _).1 _ z
  clear z
  go_wp2_with fail
  go_ret
  exact ⟨rfl, HF2.out _ H3.out.2 H3.out.1 _ (kp_alloc _ _)⟩
set_option maxHeartbeats 4000000 in
set_option maxRecDepth 100000 in
theorem named_yes (h : It s md cs q fl k b w) (hs : s.size ≤ 400) (hk : k < s.size) (hm : w.cell? ⟨3, 0, none⟩ = some (.int .i64 m)) (hp : pfx s k opN = true)
    (hc : (Lib.cut (s.data.toList.drop (k + 2)) clN.data.toList).2.2 = true) (hn : nmK (Lib.cut (s.data.toList.drop (k + 2)) clN.data.toList).1 = true) (hq : q.ok) (l : List UInt8) (hf : namF s k = some l) (hl1 : (Lib.cut (s.data.toList.drop (k + 2)) clN.data.toList).1 = l) :
    Calls Tryz.prog 100 #[.pointer (some ⟨b, 0, none⟩)] w fun e w' => e = .returned (.bool true) ∧ Fr (On b) w w' ∧ It s md cs (bothS q (foldS (nmB l) 256)) fl (k + (l.length + 4)) b w' := by
  have HF : Hid (∀ n, Fr (On b) w (w.drewN n) ∧ It s md cs q fl k b (w.drewN n)) := fun n => ⟨Fr.drewN _ _ _, Scn.drewN h n⟩
  have d0 := h.c0
  have d1 := h.c1
  have hl := pfx_len hp (by omega)
  have hl2 : k + 2 ≤ s.size := hl
  obtain ⟨R, hR⟩ : ∃ R, (s.extract k s.size).extract 2 (s.extract k s.size).size = R := ⟨_, rfl⟩
  have hRd : R.data.toList = s.data.toList.drop (k + 2) := by rw [← hR, Lib.extract_to_end, Lib.extract_to_end, List.drop_drop]
  have hRs : R.size < 4294967281 := by
    rw [Lib.size_eq, hRd, List.length_drop, ← Lib.size_eq]; omega
  have HC : Hid (∀ x, Calls Tryz.prog 105 #[.string (s.extract k s.size), .string ⟨#[91, 58]⟩] x fun e w' => e = .returned (.tuple #[.string R, .bool true]) ∧ w' = x) := fun x =>
    cutPrefix_of (cutPrefixL_yes _ _ x (by rw [Lib.extract_to_end]; exact hp) (by rw [ByteArray.size_extract]; show 2 ≤ _; omega) (by rw [ByteArray.size_extract]; omega)) _ _ (by rw [← hR]; rfl)
  have HM : Hid (∀ n, (w.drewN n).cell? ⟨3, 0, none⟩ = some (.int .i64 m)) := fun n => by rw [← hm]; simp [World.cell?, drewN_heap]
  obtain ⟨c, hc1⟩ : ∃ c, (Lib.cut (s.data.toList.drop (k + 2)) clN.data.toList).2.1 = c := ⟨_, rfl⟩
  have HU : Hid (∀ x : World, x.cell? ⟨3, 0, none⟩ = some (.int .i64 m) → Calls Tryz.prog 106 #[.string R, .string ⟨#[58, 93]⟩] x fun e w' => e = .returned (.tuple #[.string ⟨l.toArray⟩, .string ⟨c.toArray⟩, .bool true]) ∧ ∃ n, w' = x.drewN n) := fun x hx => by
    have := cut_any R clN m x hRs hx
    rw [hRd, hc, hl1, hc1] at this
    exact this
  rw [hl1] at hn
  obtain ⟨Q, hQ⟩ : ∃ Q, foldS (nmB l) 256 = Q := ⟨_, rfl⟩
  have hQok : Q.ok := by rw [← hQ]; exact ok_fold _ _ (by decide)
  obtain ⟨N, hN⟩ : ∃ N, bothS q Q = N := ⟨_, rfl⟩
  have HB : Hid (∀ x, Calls Tryz.prog 108 #[.agg #[.int .u64 q.a, .int .u64 q.b, .int .u64 q.c, .int .u64 q.d], .agg #[.int .u64 Q.a, .int .u64 Q.b, .int .u64 Q.c, .int .u64 Q.d]] x fun e w' => e = .returned (.agg #[.int .u64 N.a, .int .u64 N.b, .int .u64 N.c, .int .u64 N.d]) ∧ Kp x w') := fun x => by
    rw [← hN]
    exact kBoth_any q Q hq hQok x
  have HS : Hid (∀ x, It s md cs N fl k b x → Calls Tryz.prog 92 #[.pointer (some ⟨b, 0, none⟩), .string (⟨#[91, 58]⟩ ++ ⟨l.toArray⟩ ++ ⟨#[58, 93]⟩)] x fun e w' => e = .returned (.bool true) ∧ Fr (On b) x w' ∧ It s md cs N fl (k + (l.length + 4)) b w') := fun x hx => by
    obtain ⟨p1, p2⟩ := nam_pfx hf (by omega)
    have e1 : (⟨#[91, 58]⟩ ++ ⟨l.toArray⟩ ++ ⟨#[58, 93]⟩ : ByteArray) = ⟨(opN.data.toList ++ (l ++ clN.data.toList)).toArray⟩ := by
      apply ByteArray.ext
      simp [opN, clN]
    have e2 : (ByteArray.mk (opN.data.toList ++ (l ++ clN.data.toList)).toArray).size = l.length + 4 := by
      rw [Lib.size_eq]; simp [opN, clN]
    rw [e1]
    have := skip_any hx hs (by omega) ⟨(opN.data.toList ++ (l ++ clN.data.toList)).toArray⟩ (by rw [e2]; omega) true p1
    rw [e2] at this
    exact this
  have HL4 : Hid (l.length ≤ 400) := by show l.length ≤ 400; have := (nam_pfx hf (by omega)).2; omega
  have HN : Hid (∀ x, Calls Tryz.prog 107 #[.string ⟨l.toArray⟩] x fun e w' => e = .returned (.tuple #[.agg #[.int .u64 Q.a, .int .u64 Q.b, .int .u64 Q.c, .int .u64 Q.d], .bool true]) ∧ Kp x w') := fun x => by
    have := kNamed_any ⟨l.toArray⟩ x
    rw [Lib.toList_data] at this
    rw [show (ByteArray.mk l.toArray).data.toList = l from rfl, hn, hQ] at this
    exact this
  have HF2 : Hid (∀ x, It s md cs q fl k b x → Fr (On b) w x → ∀ y, Kp x y → Fr (On b) w y ∧ It s md cs q fl k b y) := fun x h1 h2 y h3 => ⟨h2.trans (Fr.of_below h3), h1.kp h3⟩
  rw [hQ, hN]
  clear h hp hR hRd hc hl1 hc1 hm hn hQ hN hf hq
  go_enter Tryz.func100, Tryz.ntmps100
  go_wp2_with fail
  go_quiet ((go_at_call 105; exact Calls.quiet_of_same (HC.out _)))
  go_wp2_with fail
  refine Calls.mono (HU.out _ (HM.out _)) ?_
  rintro e _ ⟨rfl, n2, rfl⟩
  go_wp2_with fail
  refine Calls.mono (HN.out _) ?_
  rintro e w3 ⟨rfl, z⟩
  have H3 : Hid _ := HF2.out _ (HF.out _).2 (HF.out _).1 _ z
  clear z
  go_wp2_with fail
  have HSB : Hid (SetBox w3.heap.size Q (w3.alloc (.cells #[.int .u64 Q.a, .int .u64 Q.b, .int .u64 Q.c, .int .u64 Q.d] 70)).drew) := alloc_new w3 _
  have H4 : Hid (Fr (On b) w (w3.alloc (.cells #[.int .u64 Q.a, .int .u64 Q.b, .int .u64 Q.c, .int .u64 Q.d] 70)).drew ∧ It s md cs q fl k b (w3.alloc (.cells #[.int .u64 Q.a, .int .u64 Q.b, .int .u64 Q.c, .int .u64 Q.d] 70)).drew ∧ b < w3.heap.size) := by
    have z := HF2.out _ H3.out.2 H3.out.1 _ (kp_trans (kp_alloc w3 (.cells #[.int .u64 Q.a, .int .u64 Q.b, .int .u64 Q.c, .int .u64 Q.d] 70)) (kp_drew _))
    exact ⟨z.1, z.2, Scn.lt H3.out.2⟩
  obtain ⟨⟨e4, e5, e6, e7⟩, _⟩ := H4.out.2.1.cells
  have rl0 : ∀ w', SetBox w3.heap.size Q w' → w'.cell? ⟨w3.heap.size, 0, none⟩ = some (.int .u64 Q.a) := fun _ h => h.cells.1
  have rl1 : ∀ w', SetBox w3.heap.size Q w' → w'.cell? ⟨w3.heap.size, 1, none⟩ = some (.int .u64 Q.b) := fun _ h => h.cells.2.1
  have rl2 : ∀ w', SetBox w3.heap.size Q w' → w'.cell? ⟨w3.heap.size, 2, none⟩ = some (.int .u64 Q.c) := fun _ h => h.cells.2.2.1
  have rl3 : ∀ w', SetBox w3.heap.size Q w' → w'.cell? ⟨w3.heap.size, 3, none⟩ = some (.int .u64 Q.d) := fun _ h => h.cells.2.2.2
  refine wp_region_noPanic ?_
  refine wp_region_held_drew (S := SetBox w3.heap.size Q) (by kernel_rfl) (HSB.out) (fun hHeld => ?_)
  refine takeAt 0 (some 40) ?_ rfl rfl (by kernel_rfl) (by kernel_rfl) (by kernel_rfl) (fun _ _ _ h => h) (Or.inl ⟨by rfl, ?_⟩) hHeld ?_
  rotate_left
  · intro w hSw
    go_simp <;> with_reducible rfl
  try simp only [Act.put, List.setIfInBounds_toArray, List.set_cons_zero, List.set_cons_succ]
  refine takeAt 1 (some 41) ?_ rfl rfl (by kernel_rfl) (by kernel_rfl) (by kernel_rfl) (fun _ _ _ h => h) (Or.inl ⟨by rfl, ?_⟩) hHeld ?_
  rotate_left
  · intro w hSw
    go_simp <;> with_reducible rfl
  try simp only [Act.put, List.setIfInBounds_toArray, List.set_cons_zero, List.set_cons_succ]
  refine takeAt 2 (some 42) ?_ rfl rfl (by kernel_rfl) (by kernel_rfl) (by kernel_rfl) (fun _ _ _ h => h) (Or.inl ⟨by rfl, ?_⟩) hHeld ?_
  rotate_left
  · intro w hSw
    go_simp <;> with_reducible rfl
  try simp only [Act.put, List.setIfInBounds_toArray, List.set_cons_zero, List.set_cons_succ]
  refine takeAt 3 (some 43) ?_ rfl rfl (by kernel_rfl) (by kernel_rfl) (by kernel_rfl) (fun _ _ _ h => h) (Or.inl ⟨by rfl, ?_⟩) hHeld ?_
  rotate_left
  · intro w hSw
    go_simp <;> with_reducible rfl
  try simp only [Act.put, List.setIfInBounds_toArray, List.set_cons_zero, List.set_cons_succ]
  refine takeAt 5 (some 45) ?_ rfl rfl (by kernel_rfl) (by kernel_rfl) (by kernel_rfl) (fun _ _ _ h => h) (Or.inl ⟨by rfl, ?_⟩) hHeld ?_
  rotate_left
  · intro w hSw
    go_simp <;> with_reducible rfl
  try simp only [Act.put, List.setIfInBounds_toArray, List.set_cons_zero, List.set_cons_succ]
  refine wpAnyH_ready (rs := [4]) (by kernel_rfl) (by simp) ?_
  refine AllReadyH.cons rfl (fun K hK => ?_) AllReadyH.nil
  go_simp
  refine hK.out _ _ (HSB.out) (fun hHeld => ?_)
  clear hK K
  try simp only [Act.put, List.setIfInBounds_toArray, List.set_cons_zero, List.set_cons_succ]
  refine callAt 6 46 108 (vals := #[.agg #[.int .u64 q.a, .int .u64 q.b, .int .u64 q.c, .int .u64 q.d], .agg #[.int .u64 Q.a, .int .u64 Q.b, .int .u64 Q.c, .int .u64 Q.d]]) (by kernel_rfl) rfl rfl rfl rfl (by simp [Act.eval]) Tryz.func108 (by kernel_rfl) (by kernel_rfl) ?_
  refine Calls.mono (HB.out _) ?_
  rintro e w5 ⟨rfl, z⟩
  have H5 : Hid (Fr (On b) w w5 ∧ It s md cs q fl k b w5 ∧ SetBox w3.heap.size Q w5) := ⟨H4.out.1.trans (Fr.of_below z), H4.out.2.1.kp z, by
    have := z.block w3.heap.size (by have := (Array.getElem?_eq_some_iff.1 HSB.out).1; exact this)
    unfold SetBox
    rw [this]
    exact HSB.out⟩
  clear z
  refine ⟨_, rfl, H5.out.2.2, fun hHeld => ?_⟩
  try simp only [Act.put, List.setIfInBounds_toArray, List.set_cons_zero, List.set_cons_succ]
  refine takeAt 7 (some 47) ?_ rfl rfl (by kernel_rfl) (by kernel_rfl) (by kernel_rfl) (fun _ _ _ h => h) (Or.inl ⟨by rfl, ?_⟩) hHeld ?_
  rotate_left
  · intro w hSw
    go_simp <;> with_reducible rfl
  try simp only [Act.put, List.setIfInBounds_toArray, List.set_cons_zero, List.set_cons_succ]
  refine takeAt 8 (some 48) ?_ rfl rfl (by kernel_rfl) (by kernel_rfl) (by kernel_rfl) (fun _ _ _ h => h) (Or.inl ⟨by rfl, ?_⟩) hHeld ?_
  rotate_left
  · intro w hSw
    go_simp <;> with_reducible rfl
  try simp only [Act.put, List.setIfInBounds_toArray, List.set_cons_zero, List.set_cons_succ]
  obtain ⟨⟨g4, g5, g6, g7⟩, _⟩ := H5.out.2.1.cells
  have f4 := H5.out.2.1.fz 4
  have f5 := H5.out.2.1.fz 5
  have f6 := H5.out.2.1.fz 6
  have f7 := H5.out.2.1.fz 7
  have H6 : Hid (Fr (On b) w ((((w5.setCell ⟨b, 4, none⟩ (.int .u64 N.a)).setCell ⟨b, 5, none⟩ (.int .u64 N.b)).setCell ⟨b, 6, none⟩ (.int .u64 N.c)).setCell ⟨b, 7, none⟩ (.int .u64 N.d)) ∧ It s md cs N fl k b ((((w5.setCell ⟨b, 4, none⟩ (.int .u64 N.a)).setCell ⟨b, 5, none⟩ (.int .u64 N.b)).setCell ⟨b, 6, none⟩ (.int .u64 N.c)).setCell ⟨b, 7, none⟩ (.int .u64 N.d)) ∧ SetBox w3.heap.size Q ((((w5.setCell ⟨b, 4, none⟩ (.int .u64 N.a)).setCell ⟨b, 5, none⟩ (.int .u64 N.b)).setCell ⟨b, 6, none⟩ (.int .u64 N.c)).setCell ⟨b, 7, none⟩ (.int .u64 N.d))) := ⟨H5.out.1.trans (It.frQ N w5), H5.out.2.1.setQ N, by
    have hn : w3.heap.size ≠ b := by have := H4.out.2.2; omega
    have z : Fr (On b) w5 ((((w5.setCell ⟨b, 4, none⟩ (.int .u64 N.a)).setCell ⟨b, 5, none⟩ (.int .u64 N.b)).setCell ⟨b, 6, none⟩ (.int .u64 N.c)).setCell ⟨b, 7, none⟩ (.int .u64 N.d)) := It.frQ N w5
    have := z.block w3.heap.size (by have := (Array.getElem?_eq_some_iff.1 H5.out.2.2).1; exact this) (by intro q; exact hn q)
    unfold SetBox
    rw [this]
    exact H5.out.2.2⟩
  refine wpAnyH_ready (rs := [9]) (by kernel_rfl) (by simp) ?_
  refine AllReadyH.cons rfl (fun K hK => ?_) AllReadyH.nil
  go_simp
  refine hK.out _ _ (H6.out.2.2) (fun hHeld => ?_)
  clear hK K
  try simp only [Act.put, List.setIfInBounds_toArray, List.set_cons_zero, List.set_cons_succ]
  refine wpAnyH_done (by kernel_rfl) ?_ _
  refine NoPanic.normal ?_
  generalize ((((w5.setCell ⟨b, 4, none⟩ (.int .u64 N.a)).setCell ⟨b, 5, none⟩ (.int .u64 N.b)).setCell ⟨b, 6, none⟩ (.int .u64 N.c)).setCell ⟨b, 7, none⟩ (.int .u64 N.d)) = w6 at *
  clear g4 g5 g6 g7 f4 f5 f6 f7 e4 e5 e6 e7 rl0 rl1 rl2 rl3
  have hl4 := HL4.out
  have hA1 := run_string_add_sum (P := Tryz.prog) w6 ⟨#[91, 58]⟩ ⟨l.toArray⟩ (by rw [Lib.size_eq, Lib.size_eq]; simp; omega)
  have hA2 := run_string_add_sum (P := Tryz.prog) w6 (⟨#[91, 58]⟩ ++ ⟨l.toArray⟩) ⟨#[58, 93]⟩ (by rw [ByteArray.size_append, Lib.size_eq, Lib.size_eq, Lib.size_eq]; simp; omega)
  clear hl4
  go_wp2_with fail
  refine Calls.mono (HS.out _ H6.out.2.1) ?_
  rintro e w7 ⟨rfl, z1, z2⟩
  have H7 : Hid _ := (⟨H6.out.1.trans z1, z2⟩ : Fr (On b) w w7 ∧ It s md cs N fl (k + (l.length + 4)) b w7)
  clear z1 z2
  go_wp2_with fail
  go_ret
  exact ⟨rfl, H7.out⟩
end
end Go.Proofs.YtpahpnajeliodaaGreatDoor
