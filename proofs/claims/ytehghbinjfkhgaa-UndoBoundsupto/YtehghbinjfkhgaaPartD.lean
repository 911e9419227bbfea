/- Texts that the proof of the law stands on: ZD, XA, ZE, ZF, ZG, ZH. -/
import Derived.Test.YtehghbinjfkhgaaPartC
import Derived.Lib.Slices
import Derived.Lib.MinMax
/- The document's Add, as long as there is room. -/
namespace Go.Proofs.Ytehghbinjfkhgaa
open Go.ChangeShapes Go.WideShapes Go.ChangeAt Go.RowKit Go.Maps Go.MapKept
set_option linter.unusedVariables false
set_option linter.unusedSimpArgs false
set_option maxRecDepth 100000
theorem infoRS : (Try.prog.info? 81).map (fun i => (i.zero, i.size, i.bytes)) = some (some (.agg #[.int .i64 0, .int .i64 0, .slice none 0 0, .int .i64 0]), 4, 48) := by kernel_rfl
section
variable {B C r : Nat} {v : Value} {vs : List Value} {m : Tr} {w w1 : World}
theorem Rb.nxt (h : Rb B C r v vs m w) (x : Int) : Rb B C r v vs { m with next := x } (w.setCell ⟨r, 3, none⟩ (.int .i64 x)) ∧ Ff TQ B w (w.setCell ⟨r, 3, none⟩ (.int .i64 x)) := by
  have f := fr_set r 3 (.int .i64 x) w
  have ff : Ff TQ B w (w.setCell ⟨r, 3, none⟩ (.int .i64 x)) := Ff.on f h.lr h.box (.inl rfl)
  exact ⟨⟨h.lr, h.box.set 3 _, row_fr h.row f fun j hj e => row_ne h.row h.box (by decide) (by rw [hj, e]), h.bys.ff ff (tq_of (by decide) (by decide)) (tq_of (by decide) (by decide))⟩, ff⟩
/-- One state more is laid behind the others. -/
theorem Rb.add (h : Rb B C r v vs m w) {s : St} {u v' : Value} (hu : Dw 0 u s.by_ w) {w5 : World} (hr : w5.ownsRow B 81 4 v' (m.L.length + 1) (flatR m.L vs ++ [.int .i64 s.seq, .int .i64 s.fr, u, .int .i64 s.on])) (hg : w.grownBy w5 v.ownBlock) :
    Rb B w5.heap.size r v' (vs ++ [u]) { m with L := m.L ++ [s] } (w5.setCell ⟨r, 1, none⟩ v') ∧ Ff TQ B w (w5.setCell ⟨r, 1, none⟩ v') := by
  have f0 : Ff TQ B w w5 := Fr.mono (fr_grown hg) fun k _ e => by
    rcases h.row.2 with ⟨z, _⟩ | ⟨g, c, cur, z, hb, hgg, _⟩
    · rw [z] at e; cases e
    · rw [z] at e; simp only [Value.ownBlock, Option.some.injEq] at e; subst e; exact ⟨hb, _, hgg, .inr rfl⟩
  have b5 : Lc 48 r [.int .i64 m.most, v, .int .i64 m.now, .int .i64 m.next] w5 := h.box.fr (fr_grown hg) fun e => row_ne h.row h.box (by decide) e.symm
  have f := fr_set r 1 v' w5
  have f1 : Ff TQ B w5 (w5.setCell ⟨r, 1, none⟩ v') := Ff.on f h.lr b5 (.inl rfl)
  have ff := f0.trans f1
  refine ⟨⟨h.lr, b5.set 1 _, ?_, ?_, fun i s' u' h1 h2 => ?_⟩, ff⟩
  · show World.ownsRow _ B _ 4 v' (m.L ++ [s]).length (flatR (m.L ++ [s]) (vs ++ [u]))
    rw [List.length_append, List.length_singleton, flatR_snoc _ _ _ _ h.bys.1]
    exact row_fr hr f fun j hj e => row_ne hr b5 (by decide) (by rw [hj, e])
  · show (vs ++ [u]).length = (m.L ++ [s]).length
    rw [List.length_append, List.length_append, h.bys.1]; rfl
  · have h1' : (m.L ++ [s])[i]? = some s' := h1
    have key : Dw 0 u' s'.by_ w := by
      by_cases q : i < m.L.length
      · rw [List.getElem?_append_left q] at h1'
        rw [List.getElem?_append_left (by rw [h.bys.1]; exact q)] at h2
        exact (h.bys.2 i s' u' h1' h2).1
      · have hl := (List.getElem?_eq_some_iff.1 h1').1
        simp only [List.length_append, List.length_singleton] at hl
        obtain rfl : i = m.L.length := by omega
        rw [List.getElem?_append_right (Nat.le_refl _), Nat.sub_self] at h1'
        rw [List.getElem?_append_right (by rw [h.bys.1]; exact Nat.le_refl _), h.bys.1, Nat.sub_self] at h2
        cases h1'; cases h2
        exact hu
    have k5 := key.ff f0 (tq_of (by decide) (by decide)) (tq_of (by decide) (by decide))
    refine ⟨k5.ff f1 (tq_of (by decide) (by decide)) (tq_of (by decide) (by decide)), fun j hj => ?_⟩
    obtain ⟨cs, r1, _⟩ := k5
    exact (r1.lt j hj).2
theorem Rb.onN {g c i n : Nat} (h : Rb B C r (.slice (some ⟨g, 0, none⟩) n c) vs m w) (hn : n = m.L.length) (hnd : (m.L.map St.seq).Nodup) {x : Int} (hi : (m.L.map St.seq)[i]? = some x) (y : Int) : Rb B C r (.slice (some ⟨g, 0, none⟩) n c) vs { m with L := setOn m.L x y } (w.setCell ⟨g, i * 4 + 3, none⟩ (.int .i64 y)) ∧ Ff TQ B w (w.setCell ⟨g, i * 4 + 3, none⟩ (.int .i64 y)) := by
  subst hn; exact h.on hnd hi y
theorem nd_snoc (I : Inv m) (ds : List Dl) : ((m.L ++ [(⟨m.next, m.now, -1, ds⟩ : St)]).map St.seq).Nodup := by
  rw [List.map_append, List.map_singleton, List.nodup_append]
  refine ⟨I.nodup, by simp, fun x hx y hy => ?_⟩
  simp only [List.mem_singleton] at hy
  subst hy
  obtain ⟨s, hs⟩ := Option.ne_none_iff_exists'.1 (look_ne.2 hx)
  have := I.fam.fr _ _ hs
  show x ≠ m.next
  omega
set_option maxHeartbeats 16000000 in
theorem radd_few (h : Rw B C r m w) (I : Inv m) (hn : m.next ≤ 10000) (hl : m.L.length ≤ 240) (hm : (m.L.length : Int) + 1 ≤ m.most) (hB : B ≤ w.heap.size)
    {P : Nat → Prop} {X : Xl} {D : Nat} (ok : Okx D X) {dv : Value} {ds : List Dl} (hd : Dr P X dv ds w) (hX : ∀ {v ls w w'}, X v ls w → Ff TQ B w w' → X v ls w') (hP : ∀ {w w'}, Ff TQ B w w' → Dr P X dv ds w → Dr P X dv ds w') {N : Nat} (hf : Few N ds) (hN : N ≤ 2513169434916) :
    Calls Try.prog 46 #[.pointer (some ⟨r, 0, none⟩), dv] w fun e w' => e = .returned (.int .i64 m.next) ∧ Rw B w'.heap.size r (addT m ds) w' ∧ Ff TQ B w w' := by
  obtain ⟨i9, hi9, z0, z1, z2⟩ := info_parts infoRS
  have hlt := I.lt
  have hxn := I.fam.none_next
  obtain ⟨v, vs, h⟩ := h
  have c3 := h.box.at (j := 3) rfl
  have g3 := h.box.fz 3
  obtain ⟨k, hk⟩ := idx_of I.nw
  obtain ⟨s0, hs0⟩ := Option.ne_none_iff_exists'.1 I.nw
  have hks := at_of I.sq hk hs0
  obtain ⟨W1, hW1⟩ : ∃ W1, w.setCell ⟨r, 3, none⟩ (.int .i64 (m.next + 1)) = W1 := ⟨_, rfl⟩
  have HW1 : Hid (_ = W1) := hW1
  obtain ⟨r1, f1⟩ := h.nxt (m.next + 1)
  rw [hW1] at r1 f1
  have hd1 := hP f1 hd
  have y1 := r1.box.at (j := 1) rfl
  have y2 := r1.box.at (j := 2) rfl
  obtain ⟨g, cp, u0, rfl, hBg, hc1, hc2, _, _⟩ := h.cell hks
  obtain ⟨da, dn, dc, rfl⟩ : ∃ a n c, dv = .slice a n c := by obtain ⟨a, c, rfl, _⟩ := hd.form; exact ⟨a, _, c, rfl⟩
  have HC : Hid (∀ z, Kp W1 z → Calls Try.prog 61 #[.slice da dn dc] z fun e w' => ∃ v', e = .returned v' ∧ Dw 0 v' ds w' ∧ Kp W1 w') := fun z kz => (lent_any ok (hd1.kp ok kz) hf hN).mono (by rintro e w' ⟨v', rfl, q1, q2⟩; exact ⟨v', rfl, q1.zero, kp_trans kz q2⟩)
  have HR : Hid (Rb B C r (.slice (some ⟨g, 0, none⟩) m.L.length cp) vs { m with next := m.next + 1 } W1 ∧ Ff TQ B w W1 ∧ B ≤ W1.heap.size) := ⟨r1, f1, Nat.le_trans hB f1.size⟩
  have HI : Hid (Inv m ∧ (m.L.map St.seq)[k]? = some m.now ∧ look m.L m.next = none ∧ (m.L.length : Int) + 1 ≤ m.most ∧ m.L.length ≤ 240) := ⟨I, hk, hxn, hm, hl⟩
  obtain ⟨NL, hNL⟩ : ∃ n, m.L.length = n := ⟨_, rfl⟩
  have HNL : Hid (m.L.length = NL) := hNL
  have HADD : Hid (∀ w3 dv', Dw 0 dv' ds w3 → Kp W1 w3 →
      (w3.alloc (.cells #[.int .i64 m.next, .int .i64 m.now, dv', .int .i64 (-1)] 81)).ownsRow B 81 4 (.slice (some ⟨g, 0, none⟩) NL cp) NL (flatR m.L vs) ∧
      (∀ j u, ([.int .i64 m.next, .int .i64 m.now, dv', .int .i64 (-1)] : List Value)[j]? = some u → (w3.alloc (.cells #[.int .i64 m.next, .int .i64 m.now, dv', .int .i64 (-1)] 81)).cell? ((⟨w3.heap.size, 0, none⟩ : Addr).add j) = some u) ∧
      (∀ u ∈ ([.int .i64 m.next, .int .i64 m.now, dv', .int .i64 (-1)] : List Value), u.oneCell' = true) ∧
      B ≤ (w3.alloc (.cells #[.int .i64 m.next, .int .i64 m.now, dv', .int .i64 (-1)] 81)).heap.size ∧
      ∀ w5 v5, w5.ownsRow B 81 4 v5 (NL + 1) (flatR m.L vs ++ [.int .i64 m.next, .int .i64 m.now, dv', .int .i64 (-1)]) → (w3.alloc (.cells #[.int .i64 m.next, .int .i64 m.now, dv', .int .i64 (-1)] 81)).grownBy w5 (Value.slice (some ⟨g, 0, none⟩) NL cp).ownBlock →
        w5.cell? ⟨r, 1, none⟩ = some (.slice (some ⟨g, 0, none⟩) NL cp) ∧ w5.frozen? ⟨r, 1, none⟩ = false ∧ w5.cell? ⟨r, 2, none⟩ = some (.int .i64 m.now) ∧ (w5.setCell ⟨r, 1, none⟩ v5).cell? ⟨r, 2, none⟩ = some (.int .i64 m.now) ∧
        Hid (Rb B w5.heap.size r v5 (vs ++ [dv']) { m with next := m.next + 1, L := m.L ++ [⟨m.next, m.now, -1, ds⟩] } (w5.setCell ⟨r, 1, none⟩ v5) ∧ Ff TQ B w (w5.setCell ⟨r, 1, none⟩ v5))) := fun w3 dv' d3 k3 => by
    have k4 : Kp W1 (w3.alloc (.cells #[.int .i64 m.next, .int .i64 m.now, dv', .int .i64 (-1)] 81)) := kp_more k3 _
    have rb4 := HR.out.1.kp k4
    have row4 : World.ownsRow (w3.alloc (.cells #[.int .i64 m.next, .int .i64 m.now, dv', .int .i64 (-1)] 81)) B 81 4 (.slice (some ⟨g, 0, none⟩) m.L.length cp) m.L.length (flatR m.L vs) := rb4.row
    refine ⟨by rw [hNL] at row4; exact row4, fun j u hj => by rw [addr_add]; exact (Lc.new w3 [.int .i64 m.next, .int .i64 m.now, dv', .int .i64 (-1)] 81).at hj, fun u hu => ?_, Nat.le_trans HR.out.2.2 k4.size, fun w5 v5 x1 x2 => ?_⟩
    · obtain ⟨a, c, rfl, _⟩ := d3.form
      simp only [List.mem_cons, List.not_mem_nil, or_false] at hu
      rcases hu with rfl | rfl | rfl | rfl <;> rfl
    · rw [← hNL] at x1 x2
      have b5 := rb4.box.fr (fr_grown x2) fun e => row_ne rb4.row rb4.box (by decide) e.symm
      obtain ⟨q1, q2⟩ := rb4.add (s := ⟨m.next, m.now, -1, ds⟩) (d3.kp (okRow _ _) (kp_alloc _ _)) x1 x2
      rw [hNL] at b5
      exact ⟨b5.at (j := 1) rfl, b5.fz _, b5.at (j := 2) rfl, q1.box.at (j := 2) rfl, q1, (HR.out.2.1.trans (Ff.kp k4)).trans q2⟩
  rw [hNL] at y1 hc1 hl hm
  clear h r1 f1 hd hd1 hk hs0 hks hxn hW1 hf ok I hNL
  unfold maxLen at hc2
  go_enter Try.func46, Try.ntmps46
  go_upto_region 3 with fail
  rw [HW1.out]
  refine wp_region_noPanic ?_
  refine wp_region_held_drew (S := fun z => z.cell? ⟨r, 2, none⟩ = some (.int .i64 m.now)) (by kernel_rfl) (y2) (fun hHeld => ?_)
  refine takeAt 0 (some 17) ?_ rfl rfl (by kernel_rfl) (by kernel_rfl) (by kernel_rfl) (fun _ _ _ h => h) (Or.inl ⟨by rfl, ?_⟩) hHeld ?_
  rotate_left
  · intro w hSw
    go_simp <;> with_reducible rfl
  try simp only [Act.put, List.setIfInBounds_toArray, List.set_cons_zero, List.set_cons_succ]
  refine takeAt 1 (some 18) ?_ rfl rfl (by kernel_rfl) (by kernel_rfl) (by kernel_rfl) (fun _ _ _ h => h) (Or.inl ⟨by rfl, ?_⟩) hHeld ?_
  rotate_left
  · intro w hSw
    go_simp <;> with_reducible rfl
  try simp only [Act.put, List.setIfInBounds_toArray, List.set_cons_zero, List.set_cons_succ]
  refine takeAt 2 (some 19) ?_ rfl rfl (by kernel_rfl) (by kernel_rfl) (by kernel_rfl) (fun _ _ _ h => h) (Or.inl ⟨by rfl, ?_⟩) hHeld ?_
  rotate_left
  · intro w hSw
    go_simp <;> with_reducible rfl
  try simp only [Act.put, List.setIfInBounds_toArray, List.set_cons_zero, List.set_cons_succ]
  refine takeAt 3 (some 20) ?_ rfl rfl (by kernel_rfl) (by kernel_rfl) (by kernel_rfl) (fun _ _ _ h => h) (Or.inl ⟨by rfl, ?_⟩) hHeld ?_
  rotate_left
  · intro w hSw
    go_simp <;> with_reducible rfl
  try simp only [Act.put, List.setIfInBounds_toArray, List.set_cons_zero, List.set_cons_succ]
  refine takeAt 5 (some 22) ?_ rfl rfl (by kernel_rfl) (by kernel_rfl) (by kernel_rfl) (fun _ _ _ h => h) (Or.inl ⟨by rfl, ?_⟩) hHeld ?_
  rotate_left
  · intro w hSw
    go_simp <;> with_reducible rfl
  try simp only [Act.put, List.setIfInBounds_toArray, List.set_cons_zero, List.set_cons_succ]
  refine takeAt 6 (some 23) ?_ rfl rfl (by kernel_rfl) (by kernel_rfl) (by kernel_rfl) (fun _ _ _ h => h) (Or.inl ⟨by rfl, ?_⟩) hHeld ?_
  rotate_left
  · intro w hSw
    go_simp <;> with_reducible rfl
  try simp only [Act.put, List.setIfInBounds_toArray, List.set_cons_zero, List.set_cons_succ]
  refine takeAt 7 (some 24) ?_ rfl rfl (by kernel_rfl) (by kernel_rfl) (by kernel_rfl) (fun _ _ _ h => h) (Or.inl ⟨by rfl, ?_⟩) hHeld ?_
  rotate_left
  · intro w hSw
    go_simp <;> with_reducible rfl
  try simp only [Act.put, List.setIfInBounds_toArray, List.set_cons_zero, List.set_cons_succ]
  refine takeAt 8 (some 25) ?_ rfl rfl (by kernel_rfl) (by kernel_rfl) (by kernel_rfl) (fun _ _ _ h => h) (Or.inl ⟨by rfl, ?_⟩) hHeld ?_
  rotate_left
  · intro w hSw
    go_simp <;> with_reducible rfl
  try simp only [Act.put, List.setIfInBounds_toArray, List.set_cons_zero, List.set_cons_succ]
  refine takeAt 9 (some 26) ?_ rfl rfl (by kernel_rfl) (by kernel_rfl) (by kernel_rfl) (fun _ _ _ h => h) (Or.inl ⟨by rfl, ?_⟩) hHeld ?_
  rotate_left
  · intro w hSw
    go_simp <;> with_reducible rfl
  try simp only [Act.put, List.setIfInBounds_toArray, List.set_cons_zero, List.set_cons_succ]
  refine takeAt 10 (some 27) ?_ rfl rfl (by kernel_rfl) (by kernel_rfl) (by kernel_rfl) (fun _ _ _ h => h) (Or.inl ⟨by rfl, ?_⟩) hHeld ?_
  rotate_left
  · intro w hSw
    go_simp <;> with_reducible rfl
  try simp only [Act.put, List.setIfInBounds_toArray, List.set_cons_zero, List.set_cons_succ]
  refine wpAnyH_ready (rs := [4, 11]) (by kernel_rfl) (by simp) ?_
  refine AllReadyH.cons rfl (fun K hK => ?ca) (AllReadyH.cons rfl (fun K hK => ?cb) AllReadyH.nil)
  case' ca =>
    go_simp
    refine hK.out _ _ hHeld (fun hHeld => ?_)
    clear hK K
    try simp only [Act.put, List.setIfInBounds_toArray, List.set_cons_zero, List.set_cons_succ]
    refine callAt 11 28 61 (vals := #[.slice da dn dc]) (by kernel_rfl) rfl rfl rfl rfl (by simp [Act.eval]) Try.func61 (by kernel_rfl) (by kernel_rfl) ?_
    refine Calls.mono (HC.out _ (by first | exact Below.refl _ _ | exact kp_drew _)) ?_
    rintro e w3 ⟨lv, rfl, d3, k3⟩
    obtain ⟨lva, lvn, lvc, rfl⟩ : ∃ a n c, lv = .slice a n c := by obtain ⟨a, c, rfl, _⟩ := d3.form; exact ⟨a, _, c, rfl⟩
    have yl := kp_cell k3 y1
    have y22 := kp_cell k3 y2
    obtain ⟨n1, n2, n3, n4, n5⟩ := HADD.out w3 _ d3 k3
    have N1 : Hid _ := n1
    have N2 : Hid _ := n2
    have N3 : Hid _ := n3
    have N4 : Hid _ := n4
    have N5 : Hid _ := n5
    clear n1 n2 n3 n4 n5 d3 HADD HC
    refine ⟨_, rfl, y22, fun hHeld => ?_⟩
    try simp only [Act.put, List.setIfInBounds_toArray, List.set_cons_zero, List.set_cons_succ]
    refine takeAt 12 (some 29) ?_ rfl rfl (by kernel_rfl) (by kernel_rfl) (by kernel_rfl) (fun _ _ _ h => h) (Or.inl ⟨by rfl, ?_⟩) hHeld ?_
    rotate_left
    · intro w hSw
      go_simp <;> with_reducible rfl
    try simp only [Act.put, List.setIfInBounds_toArray, List.set_cons_zero, List.set_cons_succ]
    refine wpAnyH_ready (rs := [13]) (by kernel_rfl) (by simp) ?_
    refine AllReadyH.cons rfl (fun K hK => ?_) AllReadyH.nil
    go_simp
    refine hK.out _ _ (kp_cell (kp_alloc _ _) hHeld) (fun hHeld => ?_)
    clear hK K
    try simp only [Act.put, List.setIfInBounds_toArray, List.set_cons_zero, List.set_cons_succ]
    refine wpAnyH_ready (rs := [14]) (by kernel_rfl) (by simp) ?_
    refine AllReadyH.cons rfl (fun K1 hK => ?_) AllReadyH.nil
    refine step_append_lies _ rfl (.tmp 21) (.tmp 30) 46 rfl B 81 i9 _ 4 48 Try.underlying46 hi9 z0 z1 z2 rfl (by decide) (.slice (some ⟨g, 0, none⟩) NL cp) NL (flatR m.L vs) rfl N1.out ⟨w3.heap.size, 0, none⟩ 1 1 [.int .i64 m.next, .int .i64 m.now, .slice lva lvn lvc, .int .i64 (-1)] rfl rfl N2.out N3.out (by omega) (by unfold maxLen; omega) (by omega) N4.out (w3.heap.size + 1) (alloc_size _ _) ?_
    intro g5 cp5 w5 hown hgrow _ _
    obtain ⟨x1, x2, x3, x4, H5⟩ := N5.out w5 _ hown hgrow
    clear hown hgrow N1 N2 N3 N4 N5
    change K1 (Act.put _ (some 31) (.slice (some ⟨g5, 0, none⟩) (NL + 1) cp5)) w5
    refine hK.out _ _ x3 (fun hHeld => ?_)
    clear hK K1
    try simp only [Act.put, List.setIfInBounds_toArray, List.set_cons_zero, List.set_cons_succ]
    refine takeAt 15 (some 32) ?_ rfl rfl (by kernel_rfl) (by kernel_rfl) (by kernel_rfl) (fun _ _ _ h => h) (Or.inl ⟨by rfl, ?_⟩) hHeld ?_
    rotate_left
    · intro w hSw
      go_simp <;> with_reducible rfl
    try simp only [Act.put, List.setIfInBounds_toArray, List.set_cons_zero, List.set_cons_succ]
    refine takeAt 16 (some 33) ?_ rfl rfl (by kernel_rfl) (by kernel_rfl) (by kernel_rfl) (fun _ _ _ h => h) (Or.inl ⟨by rfl, ?_⟩) hHeld ?_
    rotate_left
    · intro w hSw
      go_simp <;> with_reducible rfl
    try simp only [Act.put, List.setIfInBounds_toArray, List.set_cons_zero, List.set_cons_succ]
    refine wpAnyH_ready (rs := [17]) (by kernel_rfl) (by simp) ?_
    refine AllReadyH.cons rfl (fun K hK => ?_) AllReadyH.nil
    go_simp
    refine hK.out _ _ (x4) (fun hHeld => ?_)
    clear hK K
    try simp only [Act.put, List.setIfInBounds_toArray, List.set_cons_zero, List.set_cons_succ]
    refine wpAnyH_done (by kernel_rfl) ?_ _
    refine NoPanic.normal ?_
  case' cb =>
    refine step_call 61 (vals := #[.slice da dn dc]) rfl rfl (by simp [Act.eval]) Try.func61 (by kernel_rfl) (by kernel_rfl) ?_
    refine Calls.mono (HC.out _ (by first | exact Below.refl _ _ | exact kp_drew _)) ?_
    rintro e w3 ⟨lv, rfl, d3, k3⟩
    obtain ⟨lva, lvn, lvc, rfl⟩ : ∃ a n c, lv = .slice a n c := by obtain ⟨a, c, rfl, _⟩ := d3.form; exact ⟨a, _, c, rfl⟩
    have yl := kp_cell k3 y1
    have y22 := kp_cell k3 y2
    obtain ⟨n1, n2, n3, n4, n5⟩ := HADD.out w3 _ d3 k3
    have N1 : Hid _ := n1
    have N2 : Hid _ := n2
    have N3 : Hid _ := n3
    have N4 : Hid _ := n4
    have N5 : Hid _ := n5
    clear n1 n2 n3 n4 n5 d3 HADD HC
    refine ⟨_, rfl, ?_⟩
    refine hK.out _ _ y22 (fun hHeld => ?_)
    clear hK K
    try simp only [Act.put, List.setIfInBounds_toArray, List.set_cons_zero, List.set_cons_succ]
    refine takeAt 12 (some 29) ?_ rfl rfl (by kernel_rfl) (by kernel_rfl) (by kernel_rfl) (fun _ _ _ h => h) (Or.inl ⟨by rfl, ?_⟩) hHeld ?_
    rotate_left
    · intro w hSw
      go_simp <;> with_reducible rfl
    try simp only [Act.put, List.setIfInBounds_toArray, List.set_cons_zero, List.set_cons_succ]
    refine wpAnyH_ready (rs := [4, 13]) (by kernel_rfl) (by simp) ?_
    refine AllReadyH.cons rfl (fun K hK => ?cc) (AllReadyH.cons rfl (fun K hK => ?cd) AllReadyH.nil)
    case' cc =>
      go_simp
      refine hK.out _ _ hHeld (fun hHeld => ?_)
      clear hK K
      try simp only [Act.put, List.setIfInBounds_toArray, List.set_cons_zero, List.set_cons_succ]
      refine wpAnyH_ready (rs := [13]) (by kernel_rfl) (by simp) ?_
      refine AllReadyH.cons rfl (fun K hK => ?_) AllReadyH.nil
      go_simp
      refine hK.out _ _ (kp_cell (kp_alloc _ _) hHeld) (fun hHeld => ?_)
      clear hK K
      try simp only [Act.put, List.setIfInBounds_toArray, List.set_cons_zero, List.set_cons_succ]
      refine wpAnyH_ready (rs := [14]) (by kernel_rfl) (by simp) ?_
      refine AllReadyH.cons rfl (fun K1 hK => ?_) AllReadyH.nil
      refine step_append_lies _ rfl (.tmp 21) (.tmp 30) 46 rfl B 81 i9 _ 4 48 Try.underlying46 hi9 z0 z1 z2 rfl (by decide) (.slice (some ⟨g, 0, none⟩) NL cp) NL (flatR m.L vs) rfl N1.out ⟨w3.heap.size, 0, none⟩ 1 1 [.int .i64 m.next, .int .i64 m.now, .slice lva lvn lvc, .int .i64 (-1)] rfl rfl N2.out N3.out (by omega) (by unfold maxLen; omega) (by omega) N4.out (w3.heap.size + 1) (alloc_size _ _) ?_
      intro g5 cp5 w5 hown hgrow _ _
      obtain ⟨x1, x2, x3, x4, H5⟩ := N5.out w5 _ hown hgrow
      clear hown hgrow N1 N2 N3 N4 N5
      change K1 (Act.put _ (some 31) (.slice (some ⟨g5, 0, none⟩) (NL + 1) cp5)) w5
      refine hK.out _ _ x3 (fun hHeld => ?_)
      clear hK K1
      try simp only [Act.put, List.setIfInBounds_toArray, List.set_cons_zero, List.set_cons_succ]
      refine takeAt 15 (some 32) ?_ rfl rfl (by kernel_rfl) (by kernel_rfl) (by kernel_rfl) (fun _ _ _ h => h) (Or.inl ⟨by rfl, ?_⟩) hHeld ?_
      rotate_left
      · intro w hSw
        go_simp <;> with_reducible rfl
      try simp only [Act.put, List.setIfInBounds_toArray, List.set_cons_zero, List.set_cons_succ]
      refine takeAt 16 (some 33) ?_ rfl rfl (by kernel_rfl) (by kernel_rfl) (by kernel_rfl) (fun _ _ _ h => h) (Or.inl ⟨by rfl, ?_⟩) hHeld ?_
      rotate_left
      · intro w hSw
        go_simp <;> with_reducible rfl
      try simp only [Act.put, List.setIfInBounds_toArray, List.set_cons_zero, List.set_cons_succ]
      refine wpAnyH_ready (rs := [17]) (by kernel_rfl) (by simp) ?_
      refine AllReadyH.cons rfl (fun K hK => ?_) AllReadyH.nil
      go_simp
      refine hK.out _ _ (x4) (fun hHeld => ?_)
      clear hK K
      try simp only [Act.put, List.setIfInBounds_toArray, List.set_cons_zero, List.set_cons_succ]
      refine wpAnyH_done (by kernel_rfl) ?_ _
      refine NoPanic.normal ?_
    case' cd =>
      go_simp
      refine hK.out _ _ (kp_cell (kp_alloc _ _) hHeld) (fun hHeld => ?_)
      clear hK K
      try simp only [Act.put, List.setIfInBounds_toArray, List.set_cons_zero, List.set_cons_succ]
      have yl2 := kp_cell (kp_alloc w3 (.cells #[.int .i64 m.next, .int .i64 m.now, .slice lva lvn lvc, .int .i64 (-1)] 81)) yl
      refine wpAnyH_ready (rs := [4]) (by kernel_rfl) (by simp) ?_
      refine AllReadyH.cons rfl (fun K hK => ?_) AllReadyH.nil
      go_simp
      refine hK.out _ _ (hHeld) (fun hHeld => ?_)
      clear hK K
      try simp only [Act.put, List.setIfInBounds_toArray, List.set_cons_zero, List.set_cons_succ]
      refine wpAnyH_ready (rs := [14]) (by kernel_rfl) (by simp) ?_
      refine AllReadyH.cons rfl (fun K1 hK => ?_) AllReadyH.nil
      refine step_append_lies _ rfl (.tmp 21) (.tmp 30) 46 rfl B 81 i9 _ 4 48 Try.underlying46 hi9 z0 z1 z2 rfl (by decide) (.slice (some ⟨g, 0, none⟩) NL cp) NL (flatR m.L vs) rfl N1.out ⟨w3.heap.size, 0, none⟩ 1 1 [.int .i64 m.next, .int .i64 m.now, .slice lva lvn lvc, .int .i64 (-1)] rfl rfl N2.out N3.out (by omega) (by unfold maxLen; omega) (by omega) N4.out (w3.heap.size + 1) (alloc_size _ _) ?_
      intro g5 cp5 w5 hown hgrow _ _
      obtain ⟨x1, x2, x3, x4, H5⟩ := N5.out w5 _ hown hgrow
      clear hown hgrow N1 N2 N3 N4 N5
      change K1 (Act.put _ (some 31) (.slice (some ⟨g5, 0, none⟩) (NL + 1) cp5)) w5
      refine hK.out _ _ x3 (fun hHeld => ?_)
      clear hK K1
      try simp only [Act.put, List.setIfInBounds_toArray, List.set_cons_zero, List.set_cons_succ]
      refine takeAt 15 (some 32) ?_ rfl rfl (by kernel_rfl) (by kernel_rfl) (by kernel_rfl) (fun _ _ _ h => h) (Or.inl ⟨by rfl, ?_⟩) hHeld ?_
      rotate_left
      · intro w hSw
        go_simp <;> with_reducible rfl
      try simp only [Act.put, List.setIfInBounds_toArray, List.set_cons_zero, List.set_cons_succ]
      refine takeAt 16 (some 33) ?_ rfl rfl (by kernel_rfl) (by kernel_rfl) (by kernel_rfl) (fun _ _ _ h => h) (Or.inl ⟨by rfl, ?_⟩) hHeld ?_
      rotate_left
      · intro w hSw
        go_simp <;> with_reducible rfl
      try simp only [Act.put, List.setIfInBounds_toArray, List.set_cons_zero, List.set_cons_succ]
      refine wpAnyH_ready (rs := [17]) (by kernel_rfl) (by simp) ?_
      refine AllReadyH.cons rfl (fun K hK => ?_) AllReadyH.nil
      go_simp
      refine hK.out _ _ (x4) (fun hHeld => ?_)
      clear hK K
      try simp only [Act.put, List.setIfInBounds_toArray, List.set_cons_zero, List.set_cons_succ]
      refine wpAnyH_done (by kernel_rfl) ?_ _
      refine NoPanic.normal ?_
  all_goals
    go_upto_region 4 with fail
    generalize hW6 : w5.setCell ⟨r, 1, none⟩ (.slice (some ⟨g5, 0, none⟩) (NL + 1) cp5) = W6 at H5 ⊢
    clear hW6 y1 y2 c3 g3 x1 x2 x3 x4 yl y22 k3
    obtain ⟨q6, f6⟩ := H5.out
    have hl6 : (m.L ++ [(⟨m.next, m.now, -1, ds⟩ : St)]).length = NL + 1 := by rw [List.length_append, HNL.out]; rfl
    have hnd6 := nd_snoc HI.out.1 ds
    have hk6 : ((m.L ++ [(⟨m.next, m.now, -1, ds⟩ : St)]).map St.seq)[k]? = some m.now := by
      rw [List.map_append, List.getElem?_append_left (List.getElem?_eq_some_iff.1 HI.out.2.1).1]; exact HI.out.2.1
    have hkN : k < NL := by have := (List.getElem?_eq_some_iff.1 HI.out.2.1).1; rw [List.length_map, HNL.out] at this; exact this
    have HF : Hid (∀ z, Kp W6 z → Calls Try.prog 60 #[.pointer (some ⟨r, 0, none⟩), .int .i64 m.now] z fun e w' => e = .returned (.int .i64 k) ∧ w' = z) := fun z kz => find_some (m := { m with next := m.next + 1, L := m.L ++ [⟨m.next, m.now, -1, ds⟩] }) ⟨_, _, q6.kp kz⟩ (by show (m.L ++ [_]).length ≤ 250; rw [hl6]; have := HI.out.2.2.2.2; have := HNL.out; omega) hnd6 hk6
    have y1 := q6.box.at (j := 1) rfl
    have y2 : W6.cell? ⟨r, 2, none⟩ = some (.int .i64 m.now) := q6.box.at (j := 2) rfl
    obtain ⟨s6, hs6⟩ : ∃ s, (m.L ++ [(⟨m.next, m.now, -1, ds⟩ : St)])[k]? = some s := ⟨_, List.getElem?_eq_getElem (by rw [hl6]; omega)⟩
    obtain ⟨g6, c6, u6, e6, _, hcc1, hcc2, _, _, _, _, y3, fz6⟩ := q6.cell hs6
    simp only [Value.slice.injEq, Option.some.injEq, Addr.mk.injEq, and_true, true_and] at e6
    obtain ⟨e7, e9, e8⟩ := e6
    clear e9
    rw [← e7] at y3 fz6
    rw [← e8] at hcc1 hcc2
    have y4 := fz6 (k * 4 + 3)
    obtain ⟨t6, ff6⟩ := q6.onN (n := NL + 1) (by show _ = (m.L ++ [_]).length; rw [hl6]) hnd6 hk6 m.next
    obtain ⟨W7, hW7⟩ : ∃ W7, (W6.setCell ⟨g5, k * 4 + 3, none⟩ (.int .i64 m.next)).drew = W7 := ⟨_, rfl⟩
    have HW7 : Hid (_ = W7) := hW7
    have t7 := t6.kp (kp_drew _)
    rw [hW7] at t7
    have f7 : Ff TQ B w W7 := by rw [← hW7]; exact (f6.trans ff6).trans (Ff.kp (kp_drew _))
    have y7 := t7.box.at (j := 1) rfl
    have y8 : W7.cell? ⟨r, 2, none⟩ = some (.int .i64 m.now) := t7.box.at (j := 2) rfl
    have y9 := t7.box.fz 2
    obtain ⟨t8, f8⟩ := t7.now m.next
    obtain ⟨W8, hW8⟩ : ∃ W8, W7.setCell ⟨r, 2, none⟩ (.int .i64 m.next) = W8 := ⟨_, rfl⟩
    have HW8 : Hid (_ = W8) := hW8
    rw [hW8] at t8 f8
    have x1 := t8.box.at (j := 1) rfl
    have x0 : W8.cell? ⟨r, 0, none⟩ = some (.int .i64 m.most) := t8.box.at (j := 0) rfl
    have H8 : Hid (Rw B W8.heap.size r (addT m ds) W8 ∧ Ff TQ B w W8) := by
      have e := on_snoc (L := m.L) (x := m.now) (y := m.next) (by have := HI.out.1.lt; omega) m.now (-1) ds m.next
      have t9 := t8
      rw [e] at t9
      have t10 : Rw B _ r (addT m ds) W8 := ⟨_, _, t9⟩
      exact ⟨t10.sized, f7.trans f8⟩
    have d1 : decide (((NL + 1 : Nat) : Int) > m.most) = false := decide_eq_false (by have := HI.out.2.2.2.1; have := HNL.out; omega)
    have d2 : decide (m.most < ((NL + 1 : Nat) : Int)) = false := decide_eq_false (by have := HI.out.2.2.2.1; have := HNL.out; omega)
    have hkN1 : k < NL + 1 := by omega
    have hkI : (k : Int) < (NL : Int) + 1 := by omega
    unfold maxLen at hcc2
    rw [show ({ m with next := m.next + 1, L := m.L ++ [⟨m.next, m.now, -1, ds⟩] } : Tr).L.length = NL + 1 from hl6] at hcc1
    clear q6 f6 t6 ff6 t7 f7 t8 f8 hW7 hW8 hnd6 hk6 hs6 e7 e8 fz6 H5 HI HR hl6
    refine wp_region_noPanic ?_
    refine wp_region_held_drew (S := fun z => z.cell? ⟨r, 1, none⟩ = some (.slice (some ⟨g5, 0, none⟩) (NL + 1) cp5) ∧ z.cell? ⟨r, 2, none⟩ = some (.int .i64 m.now)) (by kernel_rfl) (⟨y1, y2⟩) (fun hHeld => ?_)
    refine takeAt 0 (some 34) ?_ rfl rfl (by kernel_rfl) (by kernel_rfl) (by kernel_rfl) (fun _ _ _ h => h) (Or.inl ⟨by rfl, ?_⟩) hHeld ?_
    rotate_left
    · intro w hSw
      go_simp <;> with_reducible rfl
    try simp only [Act.put, List.setIfInBounds_toArray, List.set_cons_zero, List.set_cons_succ]
    refine takeAt 1 (some 35) ?_ rfl rfl (by kernel_rfl) (by kernel_rfl) (by kernel_rfl) (fun _ _ _ h => h) (Or.inl ⟨by rfl, ?_⟩) hHeld ?_
    rotate_left
    · intro w hSw
      go_simp <;> with_reducible rfl
    try simp only [Act.put, List.setIfInBounds_toArray, List.set_cons_zero, List.set_cons_succ]
    refine takeAt 2 (some 36) ?_ rfl rfl (by kernel_rfl) (by kernel_rfl) (by kernel_rfl) (fun _ _ _ h => h) (Or.inl ⟨by rfl, ?_⟩) hHeld ?_
    rotate_left
    · intro w hSw
      go_simp <;> with_reducible rfl
    try simp only [Act.put, List.setIfInBounds_toArray, List.set_cons_zero, List.set_cons_succ]
    refine takeAt 3 (some 37) ?_ rfl rfl (by kernel_rfl) (by kernel_rfl) (by kernel_rfl) (fun _ _ _ h => h) (Or.inl ⟨by rfl, ?_⟩) hHeld ?_
    rotate_left
    · intro w hSw
      go_simp <;> with_reducible rfl
    try simp only [Act.put, List.setIfInBounds_toArray, List.set_cons_zero, List.set_cons_succ]
    refine takeAt 4 (some 38) ?_ rfl rfl (by kernel_rfl) (by kernel_rfl) (by kernel_rfl) (fun _ _ _ h => h) (Or.inl ⟨by rfl, ?_⟩) hHeld ?_
    rotate_left
    · intro w hSw
      go_simp <;> with_reducible rfl
    try simp only [Act.put, List.setIfInBounds_toArray, List.set_cons_zero, List.set_cons_succ]
    refine takeAt 5 (some 39) ?_ rfl rfl (by kernel_rfl) (by kernel_rfl) (by kernel_rfl) (fun _ _ _ h => h) (Or.inl ⟨by rfl, ?_⟩) hHeld ?_
    rotate_left
    · intro w hSw
      go_simp <;> with_reducible rfl
    try simp only [Act.put, List.setIfInBounds_toArray, List.set_cons_zero, List.set_cons_succ]
    refine takeAt 6 (some 40) ?_ rfl rfl (by kernel_rfl) (by kernel_rfl) (by kernel_rfl) (fun _ _ _ h => h) (Or.inl ⟨by rfl, ?_⟩) hHeld ?_
    rotate_left
    · intro w hSw
      go_simp <;> with_reducible rfl
    try simp only [Act.put, List.setIfInBounds_toArray, List.set_cons_zero, List.set_cons_succ]
    refine takeAt 7 (some 41) ?_ rfl rfl (by kernel_rfl) (by kernel_rfl) (by kernel_rfl) (fun _ _ _ h => h) (Or.inl ⟨by rfl, ?_⟩) hHeld ?_
    rotate_left
    · intro w hSw
      go_simp <;> with_reducible rfl
    try simp only [Act.put, List.setIfInBounds_toArray, List.set_cons_zero, List.set_cons_succ]
    refine takeAt 8 (some 42) ?_ rfl rfl (by kernel_rfl) (by kernel_rfl) (by kernel_rfl) (fun _ _ _ h => h) (Or.inl ⟨by rfl, ?_⟩) hHeld ?_
    rotate_left
    · intro w hSw
      go_simp <;> with_reducible rfl
    try simp only [Act.put, List.setIfInBounds_toArray, List.set_cons_zero, List.set_cons_succ]
    refine takeAt 10 (some 44) ?_ rfl rfl (by kernel_rfl) (by kernel_rfl) (by kernel_rfl) (fun _ _ _ h => h) (Or.inl ⟨by rfl, ?_⟩) hHeld ?_
    rotate_left
    · intro w hSw
      go_simp <;> with_reducible rfl
    try simp only [Act.put, List.setIfInBounds_toArray, List.set_cons_zero, List.set_cons_succ]
    refine callAt 9 43 60 (vals := #[.pointer (some ⟨r, 0, none⟩), .int .i64 m.now]) (by kernel_rfl) rfl rfl rfl rfl (by simp [Act.eval]) Try.func60 (by kernel_rfl) (by kernel_rfl) ?_
    refine Calls.mono (HF.out _ (by first | exact Below.refl _ _ | exact kp_drew _)) ?_
    rintro e w7 ⟨rfl, rfl⟩
    refine ⟨_, rfl, hHeld, fun hHeld => ?_⟩
    try simp only [Act.put, List.setIfInBounds_toArray, List.set_cons_zero, List.set_cons_succ]
    refine takeAt 11 (some 45) ?_ rfl rfl (by kernel_rfl) (by kernel_rfl) (by kernel_rfl) (fun _ _ _ h => h) (Or.inl ⟨by rfl, ?_⟩) hHeld ?_
    rotate_left
    · intro w hSw
      go_simp <;> with_reducible rfl
    try simp only [Act.put, List.setIfInBounds_toArray, List.set_cons_zero, List.set_cons_succ]
    refine takeAt 12 (some 46) ?_ rfl rfl (by kernel_rfl) (by kernel_rfl) (by kernel_rfl) (fun _ _ _ h => h) (Or.inl ⟨by rfl, ?_⟩) hHeld ?_
    rotate_left
    · intro w hSw
      go_simp <;> with_reducible rfl
    try simp only [Act.put, List.setIfInBounds_toArray, List.set_cons_zero, List.set_cons_succ]
    refine wpAnyH_ready (rs := [13]) (by kernel_rfl) (by simp) ?_
    refine AllReadyH.cons rfl (fun K hK => ?_) AllReadyH.nil
    go_simp
    refine hK.out _ _ (by rw [HW7.out]; exact ⟨y7, y8⟩) (fun hHeld => ?_)
    clear hK K
    try simp only [Act.put, List.setIfInBounds_toArray, List.set_cons_zero, List.set_cons_succ]
    refine wpAnyH_done (by kernel_rfl) ?_ _
    refine NoPanic.normal ?_
    rw [HW7.out]
    go_upto_region 6 with fail
    rw [HW8.out]
    go_loopw [] (fun wr => wr = W8) (fun _ => 0)
    case atStart => rfl
    case round =>
      subst hrel
      go_wp2_with fail
      go_quiet (fail)
      go_wp2_with fail
      go_ret
      exact ⟨rfl, (Rw.kp H8.out.1 (kp_drewN _ _)).sized, H8.out.2.trans (Ff.kp (kp_drewN _ _))⟩
end
end Go.Proofs.Ytehghbinjfkhgaa
/- goBehind, Earlier, Later. -/
namespace Go.Proofs.Ytehghbinjfkhgaa
open Go.ChangeShapes Go.WideShapes Go.ChangeAt Go.RowKit Go.Maps Go.MapKept Go.Shelf
set_option linter.unusedVariables false
set_option linter.unusedSimpArgs false
set_option maxRecDepth 100000
theorem Went.kp {B C t : Nat} {w w1 w' : World} {v : Value} {m : Tr} {seq : Int} (h : Went B C t w1 v m seq w') (k : Kp w w1) : Went B C t w v m seq w' := by
  obtain ⟨top, l1, l2, hm, d, q, f⟩ := h
  exact ⟨top, l1, l2, hm, d.lower k.size k.size, q, (Ff.kp k).trans f⟩
theorem Ir.cell {B g N cap : Nat} {ss : List Int} {w : World} (h : Ir B (.slice (some ⟨g, 0, none⟩) N cap) ss w) (hN : N = ss.length) {i : Nat} {x : Int} (hi : ss[i]? = some x) : w.cell? ⟨g, i, none⟩ = some (.int .i64 x) := by
  subst hN
  have q := (List.getElem?_eq_some_iff.1 hi).1
  have := World.ownsRow.cellAt h i (by omega)
  rw [this]
  simp [zcs, hi]
theorem idx_eq {ss : List Int} (hn : ss.Nodup) {k : Nat} {x : Int} (hk : ss[k]? = some x) : Lib.idxOf (ss.take ss.length) x = (k : Int) := by
  obtain ⟨h1, h2⟩ := List.getElem?_eq_some_iff.1 hk
  refine Lib.idxOf_hit ss ss.length k x h1 (Nat.le_refl _) (by simp [List.getD, hk]) fun j hj => ?_
  have hjl : j < ss.length := by omega
  have := (List.pairwise_iff_getElem.1 hn) j k hjl h1 hj
  simp only [List.getD, List.getElem?_eq_getElem hjl, Option.getD_some]
  rw [← h2]; exact this
section
variable {B C D t g N cap k : Nat} {m : Tr} {w : World} {ss : List Int} {n : Int}
theorem index_any (ha : Ir D (.slice (some ⟨g, 0, none⟩) N cap) ss w) (hN : N = ss.length) (hnd : ss.Nodup) {x : Int} (hk : ss[k]? = some x) :
    Calls Try.prog 59 #[.slice (some ⟨g, 0, none⟩) N cap, .int .i64 x] w fun e w' => e = .returned (.int .i64 k) ∧ w' = w := by
  have hl : N ≤ 9223372036854775807 := by
    obtain ⟨a, c, e, h1, h2⟩ := ha.form
    cases e
    unfold maxLen at h2; omega
  have := Any.slices_Index_int Try.lays108 g 0 N cap ss x w (by omega) hl (fun j hj => by
    rw [Nat.zero_add]
    have := ha.cell hN (i := j) (x := ss.getD j 0) (by simp [List.getD, List.getElem?_eq_getElem hj])
    exact this)
  rw [hN, idx_eq hnd hk] at this
  rw [hN]
  exact this
set_option maxHeartbeats 4000000 in
theorem behind_arg (h : Tw B C t m w) (ha : Ir D (.slice (some ⟨g, 0, none⟩) N cap) ss w) (hN : N = ss.length) (hnd : ss.Nodup) (hk : ss[k]? = some m.now) (hn1 : n < 1) :
    Calls Try.prog 35 #[.pointer (some ⟨t, 0, none⟩), .slice (some ⟨g, 0, none⟩) N cap, .int .i64 n] w fun e w' => e = .returned (.tuple #[.slice none 0 0, .int .u16 1]) ∧ w' = w := by
  obtain ⟨b, q, h⟩ := h
  have c1 := h.box.at (j := 1) rfl
  have HI : Hid _ := index_any ha hN hnd hk
  have hkN : k < N := by have := (List.getElem?_eq_some_iff.1 hk).1; omega
  have hc : N ≤ cap ∧ cap ≤ 9223372036854775807 := by
    obtain ⟨_, _, e, hc1, hc2⟩ := ha.form
    cases e; unfold maxLen at hc2; omega
  have hc1 := hc.1
  have hc2 := hc.2
  have d1 : decide (n < 1) = true := decide_eq_true hn1
  have d2 : ((k : Int) + 1).toNat = k + 1 := by omega
  clear h ha hnd hk hN
  go_enter Try.func35, Try.ntmps35
  go_wp2_with fail
  refine Calls.mono HI.out ?_
  rintro e w1 ⟨rfl, rfl⟩
  clear HI
  go_wp2_with fail
  all_goals (go_ret2; exact ⟨rfl, rfl⟩)
set_option maxHeartbeats 4000000 in
theorem behind_end (h : Tw B C t m w) (ha : Ir D (.slice (some ⟨g, 0, none⟩) N cap) ss w) (hN : N = ss.length) (hnd : ss.Nodup) (hk : ss[k]? = some m.now) (hn1 : 1 ≤ n) (hkN : k + 1 = N) :
    Calls Try.prog 35 #[.pointer (some ⟨t, 0, none⟩), .slice (some ⟨g, 0, none⟩) N cap, .int .i64 n] w fun e w' => e = .returned (.tuple #[.slice none 0 0, .int .u16 121]) ∧ w' = w := by
  obtain ⟨b, q, h⟩ := h
  have c1 := h.box.at (j := 1) rfl
  have HI : Hid _ := index_any ha hN hnd hk
  have hc : N ≤ cap ∧ cap ≤ 9223372036854775807 := by
    obtain ⟨_, _, e, hc1, hc2⟩ := ha.form
    cases e; unfold maxLen at hc2; omega
  have hc1 := hc.1
  have hc2 := hc.2
  have d1 : decide (n < 1) = false := decide_eq_false (by omega)
  have d2 : ((k : Int) + 1).toNat = k + 1 := by omega
  have d3 : N - (k + 1) = 0 := by omega
  have hkN2 : k < N := by omega
  clear h ha hnd hk hN hkN
  go_enter Try.func35, Try.ntmps35
  go_wp2_with fail
  refine Calls.mono HI.out ?_
  rintro e w1 ⟨rfl, rfl⟩
  clear HI
  go_wp2_with fail
  all_goals (go_ret2; exact ⟨rfl, rfl⟩)
set_option maxHeartbeats 8000000 in
theorem behind_go (h : Tw B C t m w) (hC : C ≤ w.heap.size) (I : Inv m) (hnx : m.next ≤ 10000) (ha : Ir D (.slice (some ⟨g, 0, none⟩) N cap) ss w) (hN : N = ss.length) (hnd : ss.Nodup) (hk : ss[k]? = some m.now) (hn1 : 1 ≤ n) {j : Nat} (hj : min n ((N - (k + 1) : Nat) : Int) = (j : Int) + 1) {seq : Int} (hs : ss[k + 1 + j]? = some seq) (hl : look m.L seq ≠ none) :
    Calls Try.prog 35 #[.pointer (some ⟨t, 0, none⟩), .slice (some ⟨g, 0, none⟩) N cap, .int .i64 n] w fun e w' => ∃ v, e = .returned (.tuple #[v, .int .u16 0]) ∧ Went B C t w v m seq w' := by
  have HG : Hid _ := go_any h hC I.fam hnx I.nw hl
  obtain ⟨b, q, h⟩ := h
  have c1 := h.box.at (j := 1) rfl
  have HI : Hid _ := index_any ha hN hnd hk
  have c2 := ha.cell hN hs
  have hkj : k + 1 + j < N := by have := (List.getElem?_eq_some_iff.1 hs).1; omega
  have hc : N ≤ cap ∧ cap ≤ 9223372036854775807 := by
    obtain ⟨_, _, e, hc1, hc2⟩ := ha.form
    cases e; unfold maxLen at hc2; omega
  have hc1 := hc.1
  have hc2 := hc.2
  have d1 : decide (n < 1) = false := decide_eq_false (by omega)
  have d2 : ((k : Int) + 1).toNat = k + 1 := by omega
  have hkN2 : k < N := by omega
  have hne : ¬ cap = k + 1 := by omega
  have d4 : (((N - (k + 1) : Nat) : Int) == 0) = false := by simp; omega
  have d5 : (N - (k + 1) == 0) = false := by simp; omega
  have hjn : j < N - (k + 1) := by omega
  have d6 : ((j : Int) + 1 - 1) = (j : Int) := by omega
  clear h ha hnd hk hN hs hl
  go_enter Try.func35, Try.ntmps35
  go_wp2_with fail
  refine Calls.mono HI.out ?_
  rintro e w1 ⟨rfl, rfl⟩
  clear HI
  go_wp2_with fail
  refine Calls.mono HG.out ?_
  rintro e w2 ⟨v2, rfl, q2⟩
  have H2 : Hid _ := q2
  clear HG q2
  go_wp2_with fail
  go_ret2
  exact ⟨_, rfl, H2.out⟩
theorem seqs_nd (I : Inv m) : (m.L.map St.seq).Nodup := I.nodup
theorem Ir.some {v : Value} (h : Ir D v ss w) (hne : ss ≠ []) : ∃ g c, v = .slice (some ⟨g, 0, none⟩) ss.length c ∧ D ≤ g := by
  rcases h.2 with ⟨_, e0⟩ | ⟨g, c, cur, e, hb, _⟩
  · exact absurd (List.eq_nil_of_length_eq_zero e0) hne
  · exact ⟨g, c, e, hb⟩
theorem look_there {L : List St} (hs : (L.map St.seq).Pairwise (· < ·)) {i : Nat} {x : Int} (h : (L.map St.seq)[i]? = some x) : look L x ≠ none := look_ne.2 (List.mem_of_getElem? h)
/-- What Later and Earlier come to: nothing, or a way to a state. -/
def Led (B C t : Nat) (w : World) (m : Tr) (err : Int) (seq : Int) (v : Value) (w' : World) : Prop :=
  (err ≠ 0 ∧ v = .slice none 0 0 ∧ Kp w w') ∨ (err = 0 ∧ Went B C t w v m seq w')
set_option maxHeartbeats 4000000 in
theorem later_any (h : Tw B C t m w) (hC : C ≤ w.heap.size) (I : Inv m) (hnx : m.next ≤ 10000) (hl : m.L.length ≤ 250) (hk : (m.L.map St.seq)[k]? = some m.now) {err seq : Int}
    (hc : (n < 1 ∧ err = 1) ∨ (1 ≤ n ∧ k + 1 = m.L.length ∧ err = 121) ∨ (1 ≤ n ∧ err = 0 ∧ ∃ j : Nat, min n ((m.L.length - (k + 1) : Nat) : Int) = (j : Int) + 1 ∧ (m.L.map St.seq)[k + 1 + j]? = some seq)) :
    Calls Try.prog 15 #[.pointer (some ⟨t, 0, none⟩), .int .i64 n] w fun e w' => ∃ v, e = .returned (.tuple #[v, .int .u16 err]) ∧ Led B C t w m err seq v w' := by
  have HN : Hid _ := numbers_any h hl I.sq
  have hkl := (List.getElem?_eq_some_iff.1 hk).1
  have HC : Hid (∀ g c w1, Ir w.heap.size (.slice (some ⟨g, 0, none⟩) m.L.length c) (m.L.map St.seq) w1 → Kp w w1 → Calls Try.prog 35 #[.pointer (some ⟨t, 0, none⟩), .slice (some ⟨g, 0, none⟩) m.L.length c, .int .i64 n] w1 fun e w' => ∃ v, e = .returned (.tuple #[v, .int .u16 err]) ∧ Led B C t w m err seq v w') := fun g c w1 q1 k1 => by
    have eN : m.L.length = (m.L.map St.seq).length := by simp
    rcases hc with ⟨h1, rfl⟩ | ⟨h1, h2, rfl⟩ | ⟨h1, rfl, j, h2, h3⟩
    · refine (behind_arg (h.kp k1) q1 eN I.nodup hk h1).mono ?_
      rintro e w' ⟨rfl, rfl⟩
      exact ⟨_, rfl, .inl ⟨by decide, rfl, k1⟩⟩
    · refine (behind_end (h.kp k1) q1 eN I.nodup hk h1 h2).mono ?_
      rintro e w' ⟨rfl, rfl⟩
      exact ⟨_, rfl, .inl ⟨by decide, rfl, k1⟩⟩
    · refine (behind_go (h.kp k1) (Nat.le_trans hC k1.size) I hnx q1 eN I.nodup hk h1 h2 h3 (look_there I.sq h3)).mono ?_
      rintro e w' ⟨v, rfl, q⟩
      exact ⟨_, rfl, .inr ⟨rfl, q.kp k1⟩⟩
  have HL : Hid (m.L.map St.seq ≠ [] ∧ (m.L.map St.seq).length = m.L.length) := ⟨fun e => by rw [e] at hkl; simp at hkl, by simp⟩
  clear h I hk hc hkl
  go_enter Try.func15, Try.ntmps15
  go_wp2_with fail
  refine Calls.mono HN.out ?_
  rintro e w1 ⟨v, rfl, q1, k1⟩
  obtain ⟨g, c, rfl, _⟩ := q1.some HL.out.1
  rw [HL.out.2] at q1 ⊢
  have HB : Hid _ := HC.out g c w1 q1 k1
  generalize m.L.length = N at HB ⊢
  clear HN HC q1 k1
  go_wp2_with fail
  refine Calls.mono HB.out ?_
  rintro e w2 ⟨v2, rfl, q2⟩
  have H2 : Hid _ := q2
  clear HB q2
  go_wp2_with fail
  go_ret2
  exact ⟨_, rfl, H2.out⟩
theorem revI_some {ss : List Int} {w : World} {g cap : Nat} (h : Ir D (.slice (some ⟨g, 0, none⟩) ss.length cap) ss w) :
    Calls Try.prog 34 #[.slice (some ⟨g, 0, none⟩) ss.length cap] w fun e w' => e = .returned (.tuple #[]) ∧ Ir D (.slice (some ⟨g, 0, none⟩) ss.length cap) ss.reverse w' ∧ Fr (On g) w w' := by
  rcases h.2 with ⟨z, _⟩ | ⟨g', cap', cur, z, hb, hg, h1, h2, h3, h4⟩
  · cases z
  cases z
  refine (Any.slices_Reverse_int Try.lays112 g 0 cap ss w (holds_of_blockI hg (zcs_cells h4)) (by unfold maxLen at h2; omega)).mono ?_
  rintro e w' ⟨rfl, n, rfl⟩
  have hl2 : ss.reverse.length = ss.length := List.length_reverse
  have q := ownsRow_sortedI (n := n) (os := #[]) (base := D) hl2 hb hg h1 h2 h3
  have f := grownBy_sortedI (w := w) (g := g) (n := n) (os := #[]) ss.reverse.toArray
  have eg : ∀ W : World, Go.Sort.grow W #[] = W := fun W => by simp [Go.Sort.grow]
  rw [eg] at q f
  refine ⟨rfl, ?_, (fr_grown f).mono fun k _ e => by cases e; rfl⟩
  unfold Ir; rw [hl2]; exact q
set_option maxHeartbeats 4000000 in
theorem earlier_any (h : Tw B C t m w) (hC : C ≤ w.heap.size) (I : Inv m) (hnx : m.next ≤ 10000) (hl : m.L.length ≤ 250) (hk : (m.L.map St.seq).reverse[k]? = some m.now) {err seq : Int}
    (hc : (n < 1 ∧ err = 1) ∨ (1 ≤ n ∧ k + 1 = m.L.length ∧ err = 121) ∨ (1 ≤ n ∧ err = 0 ∧ ∃ j : Nat, min n ((m.L.length - (k + 1) : Nat) : Int) = (j : Int) + 1 ∧ (m.L.map St.seq).reverse[k + 1 + j]? = some seq)) :
    Calls Try.prog 13 #[.pointer (some ⟨t, 0, none⟩), .int .i64 n] w fun e w' => ∃ v, e = .returned (.tuple #[v, .int .u16 err]) ∧ Led B C t w m err seq v w' := by
  have HN : Hid _ := numbers_any h hl I.sq
  have hkl := (List.getElem?_eq_some_iff.1 hk).1
  have HC : Hid (∀ g c w1, Ir w.heap.size (.slice (some ⟨g, 0, none⟩) m.L.length c) (m.L.map St.seq).reverse w1 → Kp w w1 → Calls Try.prog 35 #[.pointer (some ⟨t, 0, none⟩), .slice (some ⟨g, 0, none⟩) m.L.length c, .int .i64 n] w1 fun e w' => ∃ v, e = .returned (.tuple #[v, .int .u16 err]) ∧ Led B C t w m err seq v w') := fun g c w1 q1 k1 => by
    have eN : m.L.length = (m.L.map St.seq).reverse.length := by simp
    have hnd : (m.L.map St.seq).reverse.Nodup := (List.reverse_perm _).nodup_iff.2 I.nodup
    rcases hc with ⟨h1, rfl⟩ | ⟨h1, h2, rfl⟩ | ⟨h1, rfl, j, h2, h3⟩
    · refine (behind_arg (h.kp k1) q1 eN hnd hk h1).mono ?_
      rintro e w' ⟨rfl, rfl⟩
      exact ⟨_, rfl, .inl ⟨by decide, rfl, k1⟩⟩
    · refine (behind_end (h.kp k1) q1 eN hnd hk h1 h2).mono ?_
      rintro e w' ⟨rfl, rfl⟩
      exact ⟨_, rfl, .inl ⟨by decide, rfl, k1⟩⟩
    · refine (behind_go (h.kp k1) (Nat.le_trans hC k1.size) I hnx q1 eN hnd hk h1 h2 h3 (look_ne.2 (by simpa using List.mem_of_getElem? h3))).mono ?_
      rintro e w' ⟨v, rfl, q⟩
      exact ⟨_, rfl, .inr ⟨rfl, q.kp k1⟩⟩
  have HL : Hid (m.L.map St.seq ≠ [] ∧ (m.L.map St.seq).length = m.L.length) := ⟨fun e => by rw [e] at hkl; simp at hkl, by simp⟩
  clear h I hk hc hkl
  go_enter Try.func13, Try.ntmps13
  go_wp2_with fail
  refine Calls.mono HN.out ?_
  rintro e w1 ⟨v, rfl, q1, k1⟩
  obtain ⟨g, c, rfl, hg⟩ := q1.some HL.out.1
  have HR : Hid _ := revI_some q1
  have HK : Hid (Kp w w1 ∧ w.heap.size ≤ g) := ⟨k1, hg⟩
  rw [HL.out.2] at HR ⊢
  clear HN q1 k1 hg
  generalize hN : m.L.length = N at HR HC ⊢
  go_wp2_with fail
  refine Calls.mono HR.out ?_
  rintro e w2 ⟨rfl, q2, f2⟩
  have HB : Hid _ := HC.out g c w2 q2 (HK.out.1.trans (f2.below HK.out.1.size fun k hk e => by have := HK.out.2; unfold On at e; omega))
  clear HR HC q2 f2
  go_wp2_with fail
  refine Calls.mono HB.out ?_
  rintro e w3 ⟨v3, rfl, q3⟩
  have H3 : Hid _ := q3
  clear HB q3
  go_wp2_with fail
  go_ret2
  exact ⟨_, rfl, H3.out⟩
end
end Go.Proofs.Ytehghbinjfkhgaa
/- The document's above, has. -/
namespace Go.Proofs.Ytehghbinjfkhgaa
open Go.ChangeShapes Go.WideShapes Go.ChangeAt Go.RowKit Go.Maps Go.MapKept
set_option linter.unusedVariables false
set_option linter.unusedSimpArgs false
set_option maxRecDepth 100000
section
variable {B C r : Nat} {m : Tr} {w w1 : World}
/-- Where a round of above stands. -/
def Abv (L : List St) (A : List Int) (rt x : Int) (l1 : List Int) : Prop := (x = -1 ∧ l1 = A) ∨ (look L x ≠ none ∧ ∃ l2, A = l1 ++ l2 ++ [rt] ∧ Up L x l2 rt)
theorem Ir.snoc {D : Nat} {v' : Value} {ss : List Int} {x : Int} {w5 : World} (h : w5.ownsRow D 3 1 v' (ss.length + 1) (zcs ss ++ [.int .i64 x])) : Ir D v' (ss ++ [x]) w5 := by
  unfold Ir
  rw [List.length_append, List.length_singleton, show zcs (ss ++ [x]) = zcs ss ++ [.int .i64 x] by simp [zcs]]
  exact h
set_option maxHeartbeats 8000000 in
theorem above_any (h : Rw B C r m w) (I : Inv m) (hn : m.next ≤ 10000) (hl : m.L.length ≤ 250) {seq rt : Int} {l : List Int} {sr : St} (hs : look m.L seq ≠ none) (hu : Up m.L seq l rt) (hr : look m.L rt = some sr) (hr1 : sr.fr = -1) :
    Calls Try.prog 62 #[.pointer (some ⟨r, 0, none⟩), .int .i64 seq] w fun e w' => ∃ v, e = .returned v ∧ Ir w.heap.size v (l ++ [rt]) w' ∧ Kp w w' := by
  obtain ⟨i9, hi9, z0, z1, z2⟩ := info_parts infoInt
  have H0 : Hid (Rw B C r m w ∧ Inv m ∧ look m.L seq ≠ none ∧ Up m.L seq l rt ∧ look m.L rt = some sr ∧ sr.fr = -1 ∧ m.next ≤ 10000 ∧ m.L.length ≤ 250 ∧ l.length ≤ 10000) := ⟨h, I, hs, hu, hr, hr1, hn, hl, by
    have q1 := I.fam.up_len hu
    obtain ⟨s, hss⟩ := Option.ne_none_iff_exists'.1 hs
    have q2 := I.fam.fr _ _ hss
    have q3 := I.fam.fr _ _ hr
    omega⟩
  have hsr := I.fam.rg (by omega) hs
  clear h I hs hu hr hr1 hn hl
  go_enter Try.func62, Try.ntmps62
  go_wp2_with fail
  go_loopw [1, 5] (fun v1 v5 wr => ∃ (x : Int) (a : Option Addr) (n c : Nat), v1 = .int .i64 x ∧ v5 = .slice a n c ∧ -1 ≤ x ∧ x < 1000000 ∧ n ≤ 10001 ∧ Hid (∃ l1, Abv m.L (l ++ [rt]) rt x l1 ∧ l1.length = n ∧ Ir w.heap.size (.slice a n c) l1 wr ∧ Kp w wr)) (fun v1 _ _ => (intOf v1 + 1).toNat)
  case atStart => exact ⟨seq, none, 0, 0, rfl, rfl, by omega, by omega, by omega, [], .inr ⟨H0.out.2.2.1, l, by simp, H0.out.2.2.2.1⟩, rfl, ⟨rfl, .inl ⟨rfl, rfl⟩⟩, Below.refl _ _⟩
  case round =>
    obtain ⟨x, a, n, c, rfl, rfl, hx0, hx1, hn9, HI⟩ := hrel
    by_cases q : x = -1
    · subst q
      have d1 : decide ((-1 : Int) ≥ 0) = false := by decide
      have HX : Hid (Ir w.heap.size (.slice a n c) (l ++ [rt]) wr ∧ Kp w wr) := by
        obtain ⟨l1, h1, h2, h3, h4⟩ := HI.out
        rcases h1 with ⟨_, rfl⟩ | ⟨h1, _⟩
        · exact ⟨h3, h4⟩
        · obtain ⟨s, hss⟩ := Option.ne_none_iff_exists'.1 h1
          have := H0.out.2.1.fam.fr _ _ hss; omega
      clear HI
      go_wp2_with fail
      go_ret
      exact ⟨_, rfl, HX.out⟩
    · have d1 : decide (x ≥ 0) = true := decide_eq_true (by omega)
      have d2 : decide (0 ≤ x) = true := decide_eq_true (by omega)
      obtain ⟨l1, hA, hl1, hI, hK⟩ := HI.out
      obtain ⟨hlk, l2, hA2, hU⟩ : look m.L x ≠ none ∧ ∃ l2, l ++ [rt] = l1 ++ l2 ++ [rt] ∧ Up m.L x l2 rt := by
        rcases hA with ⟨e, _⟩ | h
        · exact absurd e q
        · exact h
      obtain ⟨s, hss⟩ := Option.ne_none_iff_exists'.1 hlk
      have hfr := H0.out.2.1.fam.fr _ _ hss
      obtain ⟨k, hk⟩ := idx_of hlk
      have hks := at_of H0.out.2.1.sq hk hss
      obtain ⟨v, vs, hR⟩ := H0.out.1
      obtain ⟨g, cc, u, rfl, _, hc1, hc2, _, _, e1, _⟩ := hR.cell hks
      have c1 := hR.box.at (j := 1) rfl
      have hkN := (List.getElem?_eq_some_iff.1 hks).1
      have hNl : n ≤ 10000 := by
        have e9 := congrArg List.length hA2
        simp only [List.length_append, List.length_singleton] at e9
        have := H0.out.2.2.2.2.2.2.2.2
        omega
      have HN : Hid (∃ l1', Abv m.L (l ++ [rt]) rt s.fr l1' ∧ l1' = l1 ++ [x]) := by
        refine ⟨_, ?_, rfl⟩
        cases l2 with
        | nil =>
          cases hU
          rw [H0.out.2.2.2.2.1] at hss
          cases hss
          exact .inl ⟨H0.out.2.2.2.2.2.1, by rw [hA2]; simp⟩
        | cons y r2 =>
          obtain ⟨s', r3, j1, e9, j2, j3⟩ := hU.head (by simp)
          cases e9
          rw [hss] at j1; cases j1
          have hne : s.fr ≠ -1 := by cases hU with | cons a1 a2 a3 => rw [hss] at a1; cases a1; exact a2
          exact .inr ⟨H0.out.2.1.fam.from_there hss hne, r2, by rw [hA2]; simp, j3⟩
      have HF : Hid (∀ z, Kp w z → Calls Try.prog 60 #[.pointer (some ⟨r, 0, none⟩), .int .i64 x] z fun e w' => e = .returned (.int .i64 k) ∧ w' = z) := fun z kz => find_some (H0.out.1.kp kz) H0.out.2.2.2.2.2.2.2.1 H0.out.2.1.nodup hk
      have HROW : Hid ((wr.alloc (.cells #[.int .i64 x] 3)).ownsRow w.heap.size 3 1 (.slice a n c) n (zcs l1)) := by rw [← hl1] at hI ⊢; exact row_kp hI (kp_alloc _ _)
      have HNEW : Hid (∀ j u, ([.int .i64 x] : List Value)[j]? = some u → (wr.alloc (.cells #[.int .i64 x] 3)).cell? ((⟨wr.heap.size, 0, none⟩ : Addr).add j) = some u) := fun j u hj => by rw [addr_add]; exact (Lc.new wr [.int .i64 x] 3).at hj
      have HBW : Hid (w.heap.size ≤ (wr.alloc (.cells #[.int .i64 x] 3)).heap.size) := by show _ ≤ _; rw [alloc_size]; have := hK.size; omega
      have HP : Hid (∀ v4 w4, w4.ownsRow w.heap.size 3 1 v4 (n + 1) (zcs l1 ++ [.int .i64 x]) → (wr.alloc (.cells #[.int .i64 x] 3)).grownBy w4 (Value.slice a n c).ownBlock → ∃ a4 c4, v4 = .slice a4 (n + 1) c4 ∧ w4.cell? ⟨r, 1, none⟩ = some (.slice (some ⟨g, 0, none⟩) m.L.length cc) ∧ w4.cell? ⟨g, k * 4 + 1, none⟩ = some (.int .i64 s.fr) ∧ Hid (Ir w.heap.size (.slice a4 (n + 1) c4) (l1 ++ [x]) w4 ∧ Kp w w4)) := fun v4 w4 x1 x2 => by
        obtain ⟨a4, c4, rfl, _, _⟩ := owns_form x1
        have k4 : Kp w w4 := (kp_trans hK (kp_alloc _ _)).trans (below_grown HROW.out HBW.out x2)
        refine ⟨a4, c4, rfl, kp_cell k4 c1, kp_cell k4 e1, ?_, k4⟩
        rw [← hl1] at x1
        have := Ir.snoc x1
        rw [hl1] at this
        exact this
      have hl9 : n + 1 = (l1 ++ [x]).length := by rw [List.length_append, List.length_singleton, hl1]
      have HL9 : Hid (n + 1 = (l1 ++ [x]).length) := hl9
      unfold maxLen at hc2
      generalize m.L.length = NL at HP hkN hc1
      clear hA hl1 hI hA2 hU hss hk hks hR c1 e1 hl9 HI hlk hK
      go_upto_region 4 with (at_builtin; refine wpList_append_own _ rfl (.tmp 8) (.tmp 10) 73 rfl w.heap.size 3 i9 _ 1 8 Try.underlying73 hi9 z0 z1 z2 rfl (by decide) (.slice a n c) n (zcs l1) rfl HROW.out ⟨wr.heap.size, 0, none⟩ 1 1 [.int .i64 x] rfl rfl HNEW.out (by simp [Value.oneCell']) (by unfold maxLen; omega) (by omega) HBW.out ?_; intro v4 w4 x1 x2 _; obtain ⟨a4, c4, rfl, y1, y2, H4⟩ := HP.out v4 w4 x1 x2; clear x1 x2)
      go_quiet ((go_at_call 60; exact Calls.quiet_of_same (HF.out _ (kp_trans H4.out.2 (by first | exact Below.refl _ _ | exact kp_drewN _ _)))))
      go_wp2_with fail
      go_roundw
      case rel =>
        obtain ⟨l9, h9, e9⟩ := HN.out
        subst e9
        exact ⟨s.fr, a4, n + 1, c4, rfl, rfl, by omega, by omega, by omega, l1 ++ [x], h9, HL9.out.symm, H4.out.1.kp (kp_drewN _ _), kp_trans H4.out.2 (kp_drewN _ _)⟩
      case measure => simp only [intOf]; omega
set_option maxHeartbeats 4000000 in
theorem has_any {D : Nat} {v : Value} {ss : List Int} (h : Ir D v ss w) (hl : ss.length ≤ 1000000) (x : Int) :
    Calls Try.prog 63 #[v, .int .i64 x] w fun e w' => e = .returned (.bool (decide (x ∈ ss))) ∧ w' = w := by
  obtain ⟨a, c, rfl, hc1, hc2⟩ := h.form
  obtain ⟨N, hN⟩ : ∃ N, ss.length = N := ⟨_, rfl⟩
  have HC : Hid (∀ i, i < N → ∃ g y, a = some ⟨g, 0, none⟩ ∧ w.cell? ⟨g, i, none⟩ = some (.int .i64 y) ∧ ss[i]? = some y) := fun i hi => by
    rcases h.2 with ⟨_, e0⟩ | ⟨g, c', cur, e, _⟩
    · omega
    · cases e
      obtain ⟨y, hy⟩ : ∃ y, ss[i]? = some y := ⟨_, List.getElem?_eq_getElem (by omega)⟩
      exact ⟨g, y, rfl, Ir.cell h rfl hy, hy⟩
  have HN : Hid (ss.length = N) := hN
  rw [hN] at hl hc1 ⊢
  unfold maxLen at hc2
  clear h hN
  go_enter Try.func63, Try.ntmps63
  go_wp2_with fail
  go_loopw [5] (fun v5 wr => ∃ i : Nat, i ≤ N ∧ v5 = .int .i64 i ∧ wr = w ∧ Hid (∀ y ∈ ss.take i, y ≠ x)) (fun v5 _ => N - (intOf v5).toNat)
  case atStart => exact ⟨0, Nat.zero_le _, rfl, rfl, by intro y hy; simp at hy⟩
  case round =>
    obtain ⟨i, hi, rfl, rfl, HI⟩ := hrel
    by_cases p : i < N
    · have d1 : decide ((i : Int) < (N : Int)) = true := decide_eq_true (by omega)
      have d2 : decide (i < N) = true := decide_eq_true (by omega)
      obtain ⟨g, y, rfl, e1, hy⟩ := HC.out i p
      by_cases e : y = x
      · subst e
        have d3 : (y == y) = true := by simp
        have HX : Hid (decide (y ∈ ss) = true) := decide_eq_true (List.mem_of_getElem? hy)
        clear hy HI
        go_wp2_with fail
        go_ret
        exact ⟨by rw [HX.out]; rfl, rfl⟩
      · have d3 : (y == x) = false := by simpa using e
        have HX : Hid (∀ z ∈ ss.take (i + 1), z ≠ x) := by
          intro z hz
          rw [take_snoc ss hy] at hz
          rcases List.mem_append.1 hz with hz | hz
          · exact HI.out z hz
          · simp only [List.mem_singleton] at hz; subst hz; exact e
        clear hy HI
        go_wp2_with fail
        go_roundw
        case rel => exact ⟨i + 1, by omega, by go_num, trivial, HX.out⟩
        case measure => simp only [intOf]; omega
    · obtain rfl : i = N := by omega
      have d1 : decide ((i : Int) < (i : Int)) = false := by simp
      have HX : Hid (decide (x ∈ ss) = false) := by
        have h1 := HI.out
        rw [List.take_of_length_le (by rw [HN.out]; exact Nat.le_refl _)] at h1
        exact decide_eq_false fun hx => h1 x hx rfl
      clear HI
      go_wp2_with fail
      go_ret
      exact ⟨by rw [HX.out]; rfl, rfl⟩
end
end Go.Proofs.Ytehghbinjfkhgaa
/- Ways on lead down to the state that is: pure. -/
namespace Go.Proofs.Ytehghbinjfkhgaa
open Go.ChangeShapes Go.WideShapes Go.ChangeAt Go.RowKit Go.Maps Go.MapKept
set_option linter.unusedVariables false
set_option linter.unusedSimpArgs false
/-- Along the way up from x each way on leads down to x. -/
inductive Pth (L : List St) : Int → Prop
  | root {x : Int} {s : St} : look L x = some s → s.fr = -1 → Pth L x
  | step {x : Int} {s s' : St} : look L x = some s → s.fr ≠ -1 → look L s.fr = some s' → s'.on = x → Pth L s.fr → Pth L x
section
variable {L : List St} {x y a b c d top next : Int} {l : List Int} {s : St}
theorem setOn_same (hs : (L.map St.seq).Pairwise (· < ·)) (ha : look L a = some s) (ho : s.on = b) : setOn L a b = L := by
  unfold setOn
  conv => rhs; rw [← List.map_id L]
  refine List.map_congr_left fun t ht => ?_
  by_cases q : t.seq = a
  · obtain ⟨i, hi⟩ := List.getElem?_of_mem ht
    have := look_at hs hi
    rw [q, ha] at this
    cases this
    rw [if_pos q, ← ho]; rfl
  · rw [if_neg q]; rfl
theorem setOn_comm (h : a ≠ c) : setOn (setOn L a b) c d = setOn (setOn L c d) a b := by
  unfold setOn
  rw [List.map_map, List.map_map]
  refine List.map_congr_left fun t _ => ?_
  simp only [Function.comp]
  have hc : ∀ (p q : Int) (u : St), (if u.seq = p then { u with on := q } else u).seq = u.seq := fun p q u => by split <;> rfl
  rw [hc, hc]
  by_cases q1 : t.seq = a
  · have q2 : t.seq ≠ c := fun e => h (by rw [← q1, e])
    rw [if_pos q1, if_neg q2, if_neg q2, if_pos q1]
  · by_cases q2 : t.seq = c
    · rw [if_neg q1, if_pos q2, if_neg q1]
    · rw [if_neg q1, if_neg q2, if_neg q1]
/-- Ways on are laid from above. -/
def dled (L : List St) : List Int → Int → List St
  | [], _ => L
  | x :: l, top => setOn (dled L l top) (l.headD top) x
theorem led_on : ∀ (l : List Int) (L : List St), (∀ z ∈ l.drop 1, z ≠ a) → (l ≠ [] → top ≠ a) → led (setOn L a x) l top = setOn (led L l top) a x
  | [], L, _, _ => rfl
  | y :: r, L, h1, h2 => by
    have hne : a ≠ r.headD top := by
      cases r with
      | nil => exact Ne.symm (h2 (by simp))
      | cons b r2 => exact Ne.symm (h1 b (by simp))
    show led (setOn (setOn L a x) (r.headD top) y) r top = setOn (led (setOn L (r.headD top) y) r top) a x
    rw [setOn_comm hne]
    exact led_on r _ (fun z hz => h1 z (by simp only [List.drop_succ_cons, List.drop_zero]; exact List.mem_of_mem_drop hz)) (fun _ => h2 (by simp))
theorem Fam.dled (F : Fam L next) (h : Up L x l y) : Go.Proofs.Ytehghbinjfkhgaa.led L l y = Go.Proofs.Ytehghbinjfkhgaa.dled L l y := by
  induction l generalizing x with
  | nil => rfl
  | cons a r ih =>
    obtain ⟨s, r', h1, e, h2, h3⟩ := h.head (by simp)
    cases e
    show Go.Proofs.Ytehghbinjfkhgaa.led (Go.Proofs.Ytehghbinjfkhgaa.setOn L (r.headD y) a) r y = Go.Proofs.Ytehghbinjfkhgaa.setOn (Go.Proofs.Ytehghbinjfkhgaa.dled L r y) (r.headD y) a
    rw [led_on, ih h3]
    · intro z hz
      cases r with
      | nil => simp at hz
      | cons b r2 =>
        have hz' : z ∈ r2 := by simpa using hz
        obtain ⟨s4, r4, j1, j2, j3, j4⟩ := h3.head (by simp)
        cases j2
        have k1 := (F.up_le j4).2.1 z hz'
        have k2 := (F.fr _ _ j1).2.1
        show z ≠ s.fr
        omega
    · intro hr
      have := (F.up_le h3).2.2 hr
      rw [h2]; omega
theorem Pth.there (h : Pth L x) : look L x ≠ none := by cases h with | root h _ => rw [h]; simp | step h _ _ _ _ => rw [h]; simp
theorem Pth.mono {M : List St} (h : Pth L x) (F : Fam L next) (hm : ∀ z s, look L z = some s → ∃ s', look M z = some s' ∧ s'.fr = s.fr ∧ (z < x → s'.on = s.on)) : Pth M x := by
  induction h with
  | root h1 h2 =>
    obtain ⟨s', q1, q2, _⟩ := hm _ _ h1
    exact .root q1 (q2.trans h2)
  | step h1 h2 h3 h4 h5 ih =>
    have hlt := (F.fr _ _ h1).2.1
    obtain ⟨s1, q1, q2, _⟩ := hm _ _ h1
    obtain ⟨s2, q3, q4, q5⟩ := hm _ _ h3
    have ih' := ih fun z s hz => by
      obtain ⟨s3, p1, p2, p3⟩ := hm z s hz
      exact ⟨s3, p1, p2, fun hz2 => p3 (by omega)⟩
    exact .step q1 (by rw [q2]; exact h2) (s' := s2) (by rw [q2]; exact q3) ((q5 hlt).trans h4) (by rw [q2]; exact ih')
theorem Pth.up (h : Pth L x) (hs : look L x = some s) (hf : s.fr ≠ -1) : Pth L s.fr ∧ ∃ s', look L s.fr = some s' ∧ s'.on = x := by
  cases h with
  | root h1 h2 => rw [hs] at h1; cases h1; exact absurd h2 hf
  | step h1 h2 h3 h4 h5 => rw [hs] at h1; cases h1; exact ⟨h5, _, h3, h4⟩
theorem Pth.ups (h : Pth L x) (hu : Up L x l y) : Pth L y := by
  induction hu with
  | nil => exact h
  | cons h1 h2 h3 ih => exact ih (h.up h1 h2).1
theorem Pth.down (h : Pth L x) (F : Fam L next) (hs : look L x = some s) (ho : s.on ≠ -1) : Pth L s.on := by
  obtain ⟨s', q1, q2⟩ := F.on _ _ hs ho
  have hx := (F.fr _ _ hs).2.2.1
  exact .step q1 (by omega) (s' := s) (by rw [q2]; exact hs) rfl (by rw [q2]; exact h)
theorem Up.headD {M : List St} {x y : Int} {l : List Int} (h : Up M x l y) : l.headD y = x := by cases h <;> rfl
theorem ways_pth {M : List St} (hu : Up M x l top) (hw : Ways M l top) (hp : Pth M top) : Pth M x := by
  induction hu with
  | nil => exact hp
  | cons h1 h2 h3 ih =>
    obtain ⟨⟨s', q1, q2⟩, q3⟩ := hw
    rw [h3.headD] at q1
    exact .step h1 h2 q1 q2 (ih q3 hp)
end
/-- No way on: none was made from it. -/
def OnK (L : List St) : Prop := ∀ x s, look L x = some s → s.on = -1 → ∀ y s', look L y = some s' → s'.fr ≠ x
/-- What is kept of both trees. -/
structure Inw (m : Tr) : Prop where
  inv : Inv m
  pth : Pth m.L m.now
  onk : OnK m.L
section
variable {m : Tr} {s : St} {ds : List Dl}
theorem inw_first (most : Int) : Inw (first most) := ⟨inv_first most, .root (s := ⟨0, -1, -1, []⟩) rfl rfl, fun x s h _ y s' h' => by
  have e : ∀ z u, look (first most).L z = some u → z = 0 ∧ u.fr = -1 := fun z u q => by
    unfold first at q; rw [look_cons] at q
    split at q
    · rename_i e; cases q; exact ⟨e.symm, rfl⟩
    · cases q
  rw [(e _ _ h').2, (e _ _ h).1]; decide⟩
theorem onk_setOn {L : List St} {a b : Int} (h : OnK L) (hb : b ≠ -1) : OnK (setOn L a b) := fun x s hx ho y s' hy => by
  obtain ⟨s0, q1, _, _, q4, q5⟩ := fr_on' L a b x s hx
  obtain ⟨s1, p1, p2, _⟩ := fr_on' L a b y s' hy
  rw [← p2]
  by_cases e : x = a
  · exact absurd ((q5 e).symm.trans ho) hb
  · exact h x s0 q1 (by rw [q4 e]; exact ho) y s1 p1
theorem onk_led {top : Int} : ∀ (l : List Int) (L : List St), (∀ z ∈ l, z ≠ -1) → OnK L → OnK (led L l top)
  | [], _, _, h => h
  | x :: l, L, hl, h => onk_led l _ (fun z hz => hl z (by simp [hz])) (onk_setOn h (hl x (by simp)))
theorem Inw.add (h : Inw m) (hf : Few 2000 ds) : Inw (addT m ds) := by
  have hlt := h.inv.lt
  refine ⟨h.inv.add hf, ?_, fun x s hx ho y s' hy => ?_⟩
  rotate_left
  · have hy0 := (h.inv.add hf).fam.fr _ _ hy
    rw [addT_look h.inv] at hx hy
    by_cases e : x = m.next
    · have : y < m.next + 1 := hy0.2.2.2
      omega
    · rw [if_neg e] at hx
      obtain ⟨s0, q1, q2⟩ := Option.map_eq_some_iff.1 hx
      by_cases e2 : x = m.now
      · rw [if_pos e2] at q2; subst q2
        have : m.next = -1 := ho
        omega
      · rw [if_neg e2] at q2; subst q2
        by_cases e3 : y = m.next
        · rw [if_pos e3] at hy; cases hy; exact fun q => e2 q.symm
        · rw [if_neg e3] at hy
          obtain ⟨s1, p1, p2⟩ := Option.map_eq_some_iff.1 hy
          have : s'.fr = s1.fr := by rw [← p2]; split <;> rfl
          rw [this]; exact h.onk x s0 q1 ho y s1 p1
  show Pth (addT m ds).L m.next
  have old : ∀ x s, look m.L x = some s → ∃ s', look (addT m ds).L x = some s' ∧ s'.fr = s.fr ∧ (x = m.now → s'.on = m.next) ∧ (x ≠ m.now → s'.on = s.on) := fun x s hs => by
    have := h.inv.fam.fr _ _ hs
    rw [addT_look h.inv, if_neg (by omega), hs]
    by_cases q : x = m.now
    · exact ⟨_, rfl, by simp [q], fun _ => by simp [q], fun e => absurd q e⟩
    · exact ⟨_, rfl, by simp [q], fun e => absurd e q, fun _ => by simp [q]⟩
  obtain ⟨s, hs⟩ := Option.ne_none_iff_exists'.1 h.inv.nw
  obtain ⟨s', q1, q2, q3, _⟩ := old _ _ hs
  refine .step (s := ⟨m.next, m.now, -1, ds⟩) (by rw [addT_look h.inv, if_pos rfl]) (by show m.now ≠ -1; omega) q1 (q3 rfl) ?_
  refine h.pth.mono h.inv.fam fun z s hz => ?_
  obtain ⟨s', p1, p2, p3, p4⟩ := old z s hz
  exact ⟨s', p1, p2, fun hlt => p4 (by omega)⟩
theorem Inw.up (h : Inw m) (hs : look m.L m.now = some s) (hf : s.fr ≠ -1) : Inw { m with now := s.fr } := ⟨h.inv.up hs hf, (h.pth.up hs hf).1, h.onk⟩
theorem Inw.down (h : Inw m) (hs : look m.L m.now = some s) (ho : s.on ≠ -1) : Inw { m with now := s.on } := ⟨h.inv.down hs ho, h.pth.down h.inv.fam hs ho, h.onk⟩
theorem Inw.go (h : Inw m) {seq top : Int} {l1 l2 : List Int} (hm : Meet m.L m.now seq top l1 l2) (hs : look m.L seq ≠ none) : Inw { m with L := led m.L l2 top, now := seq } := by
  refine ⟨h.inv.go hm hs, ?_, onk_led l2 m.L (fun z hz => ?_) h.onk⟩
  rotate_left
  · obtain ⟨s, q⟩ := Option.ne_none_iff_exists'.1 (hm.u2.there z hz)
    have := h.inv.fam.fr _ _ q; omega
  have hle := h.inv.fam.up_le hm.u2
  refine ways_pth (hm.u2.led l2 top) (h.inv.fam.ways hm.u2 hs) ?_
  refine (h.pth.ups hm.u1).mono h.inv.fam fun z s hz => ?_
  obtain ⟨s', q1, q2⟩ := fr_led (y := top) l2 m.L z s hz
  refine ⟨s', q1, q2, fun hlt => ?_⟩
  have := led_look hm.u2 h.inv.fam z (fun w hw e => by
    have := (hle.2.1 w (List.mem_of_mem_drop hw)).1
    omega) (by omega)
  rw [this, hz] at q1
  cases q1; rfl
theorem Inw.same (h : Inw m) (hs : look m.L m.now = some s) (hf : s.fr ≠ -1) : setOn m.L s.fr m.now = m.L := by
  obtain ⟨_, s', q1, q2⟩ := h.pth.up hs hf
  exact setOn_same h.inv.sq q1 q2
end
end Go.Proofs.Ytehghbinjfkhgaa
/- The document's Go. -/
namespace Go.Proofs.Ytehghbinjfkhgaa
open Go.ChangeShapes Go.WideShapes Go.ChangeAt Go.RowKit Go.Maps Go.MapKept
set_option linter.unusedVariables false
set_option linter.unusedSimpArgs false
set_option maxRecDepth 100000
section
variable {B C r : Nat} {m : Tr} {w w1 : World}
/-- Changes that lie from C on have more behind them. -/
theorem Rw.app (h : Rw B C r m w) {v : Value} {n : Nat} {xs : List Value} (hr : w.ownsRow C 35 3 v n xs) (hg : w.grownBy w1 v.ownBlock) : Rw B C r m w1 := by
  obtain ⟨u, vs, h⟩ := h
  have f := fr_grown hg
  have typ : ∀ k, some k = v.ownBlock → C ≤ k ∧ ∃ cur, w.heap[k]? = some (.cells cur 35 (0, 0)) := fun k e => by
    rcases hr.2 with ⟨z, _⟩ | ⟨g, cap, cur, z, hb, hg, _⟩
    · rw [z] at e; cases e
    · rw [z] at e; simp only [Value.ownBlock, Option.some.injEq] at e; subst e; exact ⟨hb, cur, hg⟩
  refine ⟨u, vs, h.lr, h.box.fr f fun e => ?_, row_fr h.row f fun j hj e => row_row hr h.row (by decide) j e.symm hj, h.bys.1, fun i s u' h1 h2 => ?_⟩
  · obtain ⟨_, cur, q⟩ := typ _ e
    have := h.box; unfold Lc at this; rw [this] at q; cases q
  · obtain ⟨⟨cs, r1, r2⟩, h4⟩ := h.bys.2 i s u' h1 h2
    refine ⟨⟨cs, row_fr r1 f fun j hj e => ?_, r2.imp fun u' ls rr => row_fr rr f fun j hj e => row_row hr rr (by decide) j e.symm hj⟩, h4⟩
    have := h4 j hj; have := (typ j e).1; omega
def nowR (r : Nat) (w : World) : Nat := match w.cell? ⟨r, 2, none⟩ with
  | some v => (intOf v).toNat
  | none => 0
theorem nowR_eq (h : Rw B C r m w) : nowR r w = m.now.toNat := by
  obtain ⟨v, vs, h⟩ := h
  unfold nowR
  rw [h.box.at (j := 2) rfl]
  rfl
theorem in_above {L : List St} {next seq rt x : Int} {l0 l : List Int} (h0 : Up L seq l0 rt) (h : Up L seq l x) : x ∈ l0 ++ [rt] ∨ ∃ k, Up L rt k x := by
  rcases h0.split h with ⟨k, q, _⟩ | ⟨k, q, e⟩
  · exact .inr ⟨k, q⟩
  · cases q with
    | nil => exact .inl (by simp)
    | cons a1 a2 a3 => exact .inl (by rw [e]; simp)
theorem of_above {L : List St} {seq rt x : Int} {l0 : List Int} (h0 : Up L seq l0 rt) (hx : x ∈ l0 ++ [rt]) : ∃ l2 k, Up L seq l2 x ∧ l0 ++ [rt] = l2 ++ x :: k := by
  rcases List.mem_append.1 hx with hx | hx
  · obtain ⟨k, k', q1, q2, e⟩ := h0.at_ hx
    exact ⟨k, k' ++ [rt], q1, by rw [e]; simp⟩
  · simp only [List.mem_singleton] at hx
    subst hx
    exact ⟨l0, [], h0, rfl⟩
set_option maxHeartbeats 4000000 in
theorem rgo_none (h : Rw B C r m w) (hl : m.L.length ≤ 250) (I : Inv m) {seq : Int} (hs : look m.L seq = none) :
    Calls Try.prog 43 #[.pointer (some ⟨r, 0, none⟩), .int .i64 seq] w fun e w' => e = .returned (.tuple #[.slice none 0 0, .int .i64 120]) ∧ w' = w := by
  have HF : Hid _ := find_none h hl hs
  by_cases q : seq < 0
  · have d1 : decide (seq < 0) = true := decide_eq_true q
    clear h hs HF
    go_enter Try.func43, Try.ntmps43
    go_wp2_with fail
    go_ret2
    exact ⟨rfl, rfl⟩
  · have d1 : decide (seq < 0) = false := decide_eq_false q
    have d2 : decide ((-1 : Int) < 0) = true := by decide
    clear h hs
    go_enter Try.func43, Try.ntmps43
    go_wp2_with fail
    refine Calls.mono HF.out ?_
    rintro e w1 ⟨rfl, rfl⟩
    clear HF
    go_wp2_with fail
    go_ret2
    exact ⟨rfl, rfl⟩
/-- Where a round of the way up stands. -/
def RgU (B C r : Nat) (w : World) (m : Tr) (A : List Int) (va v : Value) (wr : World) : Prop :=
  ∃ y la, Up m.L m.now la y ∧ (∀ x ∈ la, x ∉ A) ∧ look m.L y ≠ none ∧ Dw w.heap.size v (upsD m.L la) wr ∧ Rw B C r { m with now := y } wr ∧ Ff TQ B w wr ∧ Ir w.heap.size va A wr
/-- Where a round of the way down stands: j states are still to come. -/
def RgD (B C r : Nat) (w : World) (m : Tr) (A : List Int) (top : Int) (l2 : List Int) (us : List Dl) (va v : Value) (j : Nat) (wr : World) : Prop :=
  Dw w.heap.size v (us ++ dnD m.L (l2.drop j)) wr ∧ Rw B C r { m with L := dled m.L (l2.drop j) top, now := (l2.drop j).headD top } wr ∧ Ff TQ B w wr ∧ Ir w.heap.size va A wr
def WentR (B C r : Nat) (w : World) (v : Value) (m : Tr) (seq : Int) (w' : World) : Prop :=
  ∃ top l1 l2, Meet m.L m.now seq top l1 l2 ∧ GoneR B C r w v (upsD m.L l1 ++ dnD m.L l2) { m with L := led m.L l2 top, now := seq } w'
theorem Ir.ffq {D B' : Nat} {v : Value} {ss : List Int} (h : Ir D v ss w) (f : Ff TQ B' w w1) : Ir D v ss w1 := row_ff h f (tq_of (by decide) (by decide))
theorem Ir.app {D D' n : Nat} {v u : Value} {ss : List Int} {xs : List Value} (h : Ir D v ss w) (hr : w.ownsRow D' 35 3 u n xs) (hg : w.grownBy w1 u.ownBlock) : Ir D v ss w1 := row_fr h (fr_grown hg) fun j hj e => row_row hr h (by decide) j e.symm hj
set_option maxHeartbeats 32000000 in
theorem rgo_any (h : Rw B C r m w) (hC : C ≤ w.heap.size) (hB : B ≤ w.heap.size) (I : Inw m) (hn : m.next ≤ 10000) (hl : m.L.length ≤ 250) {seq : Int} (hs : look m.L seq ≠ none) :
    Calls Try.prog 43 #[.pointer (some ⟨r, 0, none⟩), .int .i64 seq] w fun e w' => ∃ v, e = .returned (.tuple #[v, .int .i64 0]) ∧ WentR B C r w v m seq w' := by
  obtain ⟨ks, hks⟩ := idx_of hs
  have hsr := I.inv.fam.rg (by omega) hs
  obtain ⟨rt, sr, hr1, hr2, hr3⟩ := I.inv.fam.rt
  obtain ⟨l0, hu0⟩ := hr3 seq hs
  have HF : Hid _ := find_some h hl I.inv.nodup hks
  have HA : Hid _ := above_any h I.inv hn hl hs hu0 hr1 hr2
  have hl0 : l0.length ≤ 10000 := by
    have q1 := I.inv.fam.up_len hu0
    obtain ⟨s, hss⟩ := Option.ne_none_iff_exists'.1 hs
    have q2 := I.inv.fam.fr _ _ hss
    have q3 := I.inv.fam.fr _ _ hr1
    omega
  have HH : Hid (Rw B C r m w ∧ C ≤ w.heap.size ∧ B ≤ w.heap.size ∧ Inw m ∧ m.next ≤ 10000 ∧ m.L.length ≤ 250 ∧ look m.L seq ≠ none) := ⟨h, hC, hB, I, hn, hl, hs⟩
  have HT : Hid (Up m.L seq l0 rt ∧ look m.L rt = some sr ∧ sr.fr = -1 ∧ ∀ x, look m.L x ≠ none → ∃ l, Up m.L x l rt) := ⟨hu0, hr1, hr2, hr3⟩
  have d1 : decide (seq < 0) = false := decide_eq_false (by omega)
  have d2 : decide ((ks : Int) < 0) = false := decide_eq_false (by omega)
  clear h I hs hks hr1 hr2 hr3 hu0 hC hB hn hl
  go_enter Try.func43, Try.ntmps43
  go_wp2_with fail
  refine Calls.mono HF.out ?_
  rintro e w1 ⟨rfl, rfl⟩
  clear HF
  go_wp2_with fail
  refine Calls.mono HA.out ?_
  rintro e w2 ⟨va, rfl, ia, ka⟩
  clear HA
  obtain ⟨ga, ca, rfl, hga⟩ := ia.some (by simp)
  have hAl : (l0 ++ [rt]).length = l0.length + 1 := by simp
  rw [hAl] at ia ⊢
  have H2 : Hid (Ir w1.heap.size (.slice (some ⟨ga, 0, none⟩) (l0.length + 1) ca) (l0 ++ [rt]) w2 ∧ Kp w1 w2) := ⟨ia, ka⟩
  obtain ⟨NA, hNA⟩ : ∃ n, l0.length + 1 = n := ⟨_, rfl⟩
  have HNA : Hid ((l0 ++ [rt]).length = NA) := by rw [← hNA]; exact hAl
  rw [hNA] at H2 ⊢
  have hNA9 : NA ≤ 10001 := by omega
  clear ia ka hAl hNA hga
  go_wp2_with fail
  go_loopw [7] (fun v7 wr => ∃ (a' : Option Addr) (n c' : Nat), v7 = .slice a' n c' ∧ Hid (RgU B C r w1 m (l0 ++ [rt]) (.slice (some ⟨ga, 0, none⟩) NA ca) (.slice a' n c') wr)) (fun _ wr => nowR r wr)
  case atStart => exact ⟨none, 0, 0, rfl, m.now, [], .nil _, by simp, HH.out.2.2.2.1.inv.nw, Dx.nil _ _ _, HH.out.1.kp H2.out.2, Ff.kp H2.out.2, H2.out.1⟩
  case round =>
    clear H2
    obtain ⟨a', n, c', rfl, HI⟩ := hrel
    obtain ⟨y, la, u1, ap, hy, dd, tt, ff, ia⟩ := HI.out
    have c2 : wr.cell? ⟨r, 2, none⟩ = some (.int .i64 y) := by obtain ⟨b, q, h⟩ := tt; exact h.box.at (j := 2) rfl
    have HHas : Hid _ := has_any ia (by rw [HNA.out]; omega) y
    have hIy : Inw { m with now := y } := ⟨⟨HH.out.2.2.2.1.inv.fam, HH.out.2.2.2.1.inv.sq, hy⟩, HH.out.2.2.2.1.pth.ups u1, HH.out.2.2.2.1.onk⟩
    have hnm := HH.out.2.2.2.2.1
    have hF := HH.out.2.2.2.1.inv.fam
    by_cases e : y ∈ l0 ++ [rt]
    · have g1 : decide (y ∈ l0 ++ [rt]) = true := decide_eq_true e
      rw [g1] at HHas
      obtain ⟨l2, kk, u2, eA⟩ := of_above HT.out.1 e
      have hMt : Meet m.L m.now seq y la l2 := ⟨u1, u2, fun x hx l hlx => by
        rcases in_above (next := m.next) HT.out.1 hlx with h9 | ⟨k9, h9⟩
        · exact ap x hx h9
        · cases h9 with
          | nil => exact ap _ hx (by simp)
          | cons a1 a2 a3 => rw [HT.out.2.1] at a1; cases a1; exact a2 HT.out.2.2.1⟩
      have HM : Hid (Meet m.L m.now seq y la l2 ∧ l0 ++ [rt] = l2 ++ y :: kk) := ⟨hMt, eA⟩
      have hlt2 : l2.length < NA := by
        have e9 := congrArg List.length eA
        rw [HNA.out] at e9
        simp only [List.length_append, List.length_cons] at e9
        omega
      have HCA : Hid (∀ i, i ≤ l2.length → ∃ z, wr.cell? ⟨ga, i, none⟩ = some (.int .i64 z) ∧ (i = l2.length → z = y) ∧ (i < l2.length → z ≠ y)) := fun i hi => by
        obtain ⟨z, hz⟩ : ∃ z, (l0 ++ [rt])[i]? = some z := ⟨_, List.getElem?_eq_getElem (by rw [HNA.out]; omega)⟩
        refine ⟨z, Ir.cell ia HNA.out.symm hz, fun e9 => ?_, fun h9 => ?_⟩
        · rw [eA, e9, List.getElem?_append_right (Nat.le_refl _), Nat.sub_self] at hz
          cases hz; rfl
        · rw [eA, List.getElem?_append_left h9] at hz
          have := ((hF.up_le u2).2.1 z (List.mem_of_getElem? hz)).1
          omega
      have HS0 : Hid (Dw w1.heap.size (.slice a' n c') (upsD m.L la) wr ∧ Rw B C r { m with now := y } wr ∧ Ff TQ B w1 wr ∧ Ir w1.heap.size (.slice (some ⟨ga, 0, none⟩) NA ca) (l0 ++ [rt]) wr) := ⟨dd, tt, ff, ia⟩
      have hca : NA ≤ ca ∧ ca ≤ 9223372036854775807 := by
        obtain ⟨_, _, e9, h8, h9⟩ := ia.form
        simp only [Value.slice.injEq] at e9
        unfold maxLen at h9
        rw [HNA.out] at h8
        omega
      have hca1 := hca.1
      have hca2 := hca.2
      clear HI dd tt ff ia u1 ap hy u2 eA hMt hIy e g1 hca
      go_wp2_with fail
      refine Calls.mono HHas.out ?_
      rintro e w3 ⟨rfl, rfl⟩
      clear HHas
      go_wp2_with fail
      go_loopw [10] (fun v10 wr => ∃ (i q : Nat), v10 = .int .i64 i ∧ i ≤ l2.length ∧ wr = w3.drewN q) (fun v10 _ => l2.length - (intOf v10).toNat)
      case atStart => exact ⟨0, 0, rfl, Nat.zero_le _, rfl⟩
      case round =>
        obtain ⟨i, q, rfl, hi, rfl⟩ := hrel
        obtain ⟨z, cz, hz1, hz2⟩ := HCA.out i hi
        have hiN : i < NA := by omega
        by_cases e : i = l2.length
        · have ez := hz1 e
          subst ez
          have g1 : (z != z) = false := by simp
          have HSK : Hid (∀ q, RgD B C r w1 m (l0 ++ [rt]) z l2 (upsD m.L la) (.slice (some ⟨ga, 0, none⟩) NA ca) (.slice a' n c') i (w3.drewN q)) := fun q => by
            have hdr : l2.drop i = [] := by rw [e]; exact List.drop_eq_nil_of_le (Nat.le_refl _)
            unfold RgD
            rw [hdr]
            exact ⟨by simpa [dnD] using HS0.out.1.kp (okRow _ _) (kp_drewN _ _), HS0.out.2.1.kp (kp_drewN _ _), HS0.out.2.2.1.trans (Ff.kp (kp_drewN _ _)), HS0.out.2.2.2.kp (kp_drewN _ _)⟩
          have hile : i ≤ l2.length := hi
          clear hz1 hz2 HS0 HCA e
          go_wp2_with fail
          go_quiet (fail)
          go_wp2_with fail
          go_loopw [7, 10] (fun v7 v10 wr => ∃ (j n5 c5 : Nat) (a5 : Option Addr), j ≤ l2.length ∧ v10 = .int .i64 j ∧ v7 = .slice a5 n5 c5 ∧ Hid (RgD B C r w1 m (l0 ++ [rt]) z l2 (upsD m.L la) (.slice (some ⟨ga, 0, none⟩) NA ca) (.slice a5 n5 c5) j wr)) (fun _ v10 _ => (intOf v10).toNat)
          case atStart => exact ⟨i, n, c', a', hile, rfl, rfl, by first | exact HSK.out _ | (rw [drew2]; exact HSK.out _)⟩
          case round =>
            clear HSK
            obtain ⟨j, n5, c5, a5, hj, rfl, rfl, HD⟩ := hrel
            cases j with
            | zero =>
              have g2 : decide (((0 : Nat) : Int) > 0) = false := by decide
              have g3 : decide ((0 : Int) > 0) = false := by decide
              have g4 : decide ((0 : Int) < 0) = false := by decide
              have HX : Hid (WentR B C r w1 (.slice a5 n5 c5) m seq wr) := by
                obtain ⟨x1, x2, x3, _⟩ := HD.out
                rw [List.drop_zero] at x1 x2
                refine ⟨z, la, l2, HM.out.1, x1, ?_, x3⟩
                rw [hF.dled HM.out.1.u2]
                have e9 := HM.out.1.u2.headD
                rw [e9] at x2
                exact x2
              clear HD
              go_wp2_with fail
              go_ret2
              exact ⟨_, rfl, HX.out⟩
            | succ i2 =>
              have g2 : decide (((i2 + 1 : Nat) : Int) > 0) = true := decide_eq_true (by omega)
              have g3 : decide ((0 : Int) < ((i2 + 1 : Nat) : Int)) = true := decide_eq_true (by omega)
              have g4 : ((i2 + 1 : Nat) : Int) - 1 = (i2 : Int) := by omega
              obtain ⟨dd, tt, ff, ia⟩ := HD.out
              obtain ⟨y2, hy2⟩ : ∃ y2, l2[i2]? = some y2 := ⟨_, List.getElem?_eq_getElem (by omega)⟩
              have hdrop : l2.drop i2 = y2 :: l2.drop (i2 + 1) := by
                obtain ⟨h8, h9⟩ := List.getElem?_eq_some_iff.1 hy2
                rw [List.drop_eq_getElem_cons h8, h9]
              obtain ⟨lr, hlr⟩ : ∃ lr, l2.drop (i2 + 1) = lr := ⟨_, rfl⟩
              have hu2 := HM.out.1.u2
              have esp : l2 = l2.take i2 ++ (y2 :: lr) := by rw [← hlr, ← hdrop, List.take_append_drop]
              rw [esp] at hu2
              obtain ⟨_, hU1⟩ := hu2.cut
              have hU1' : Up m.L y2 (y2 :: lr) z := hU1
              obtain ⟨sy, r9, hsy, e9, hfry, hU2⟩ := hU1'.head (by simp)
              cases e9
              rw [← hfry] at hU2
              rw [hlr] at dd tt
              obtain ⟨p, hp⟩ : ∃ p, lr.headD z = p := ⟨_, rfl⟩
              rw [hp] at hfry hU2 tt
              have hlkp : look m.L p ≠ none := by rw [hfry]; exact hF.from_there hsy (by cases hU1' with | cons a1 a2 a3 => rw [hsy] at a1; cases a1; exact a2)
              have hFr := hF.led hU2
              have hFr3 := hF.led hU1'
              rw [hF.dled hU2] at hFr
              rw [hF.dled hU1'] at hFr3
              have e3 : dled m.L (y2 :: lr) z = setOn (dled m.L lr z) p y2 := by show setOn (dled m.L lr z) (lr.headD z) y2 = _; rw [hp]
              have hnp : look (dled m.L lr z) p ≠ none := by rw [← hF.dled hU2]; exact (ne_led _ _ _).2 hlkp
              have I1 : Inv { m with L := dled m.L lr z, now := p } := ⟨hFr.1, by show ((dled m.L lr z).map St.seq).Pairwise _; rw [hFr.2]; exact HH.out.2.2.2.1.inv.sq, hnp⟩
              have I3 : Inv { m with L := dled m.L (y2 :: lr) z, now := p } := ⟨hFr3.1, by show ((dled m.L (y2 :: lr) z).map St.seq).Pairwise _; rw [hFr3.2]; exact HH.out.2.2.2.1.inv.sq, by show look (dled m.L (y2 :: lr) z) p ≠ none; rw [e3]; exact (look_on_ne _ _ _ _).2 hnp⟩
              have hlen3 : (dled m.L lr z).length ≤ 250 := by
                have e8 := congrArg List.length hFr.2
                simp only [List.length_map] at e8
                rw [e8]; exact HH.out.2.2.2.2.2.1
              have hlen4 : (dled m.L (y2 :: lr) z).length ≤ 250 := by rw [e3, setOn_len]; exact hlen3
              obtain ⟨kf, hkf⟩ := idx_of hnp
              obtain ⟨sp, hsp⟩ := Option.ne_none_iff_exists'.1 hnp
              have hkfs := at_of I1.sq hkf hsp
              have HF2 : Hid (∀ zz, Kp wr zz → Calls Try.prog 60 #[.pointer (some ⟨r, 0, none⟩), .int .i64 p] zz fun e w' => e = .returned (.int .i64 kf) ∧ w' = zz) := fun zz kz => find_some (m := { m with L := dled m.L lr z, now := p }) (tt.kp kz) hlen3 I1.nodup hkf
              obtain ⟨sv, vs, hR⟩ := tt
              obtain ⟨g, cc, uu, rfl, _, hcc1, hcc2, _, _, _, _, q3, fz⟩ := hR.cell hkfs
              have c1 := hR.box.at (j := 1) rfl
              have c2 : wr.cell? ⟨r, 2, none⟩ = some (.int .i64 p) := hR.box.at (j := 2) rfl
              have c3 : wr.cell? ⟨ga, i2, none⟩ = some (.int .i64 y2) := Ir.cell ia HNA.out.symm (by rw [HM.out.2, List.getElem?_append_left (by omega)]; exact hy2)
              have fz3 := fz (kf * 4 + 3)
              have hkN := (List.getElem?_eq_some_iff.1 hkfs).1
              obtain ⟨W5, hW5⟩ : ∃ W5, (wr.setCell ⟨g, kf * 4 + 3, none⟩ (.int .i64 y2)).drew = W5 := ⟨_, rfl⟩
              have HW5 : Hid (_ = W5) := hW5
              obtain ⟨r5, f5⟩ := hR.on I1.nodup hkf y2
              have r6 := r5.kp (kp_drew _)
              rw [hW5] at r6
              have f6 : Ff TQ B wr W5 := by rw [← hW5]; exact f5.trans (Ff.kp (kp_drew _))
              have d1' := r6.box.at (j := 1) rfl
              have d2' : W5.cell? ⟨r, 2, none⟩ = some (.int .i64 p) := r6.box.at (j := 2) rfl
              have ia5 := ia.ffq f6
              have d3' : W5.cell? ⟨ga, i2, none⟩ = some (.int .i64 y2) := Ir.cell ia5 HNA.out.symm (by rw [HM.out.2, List.getElem?_append_left (by omega)]; exact hy2)
              have R6 : Rw B C r { m with L := dled m.L (y2 :: lr) z, now := p } W5 := by rw [e3]; exact ⟨_, _, r6⟩
              have lkp3 : look (dled m.L (y2 :: lr) z) p = some { sp with on := y2 } := by rw [e3, look_on, hsp]; simp
              have hny : look (dled m.L (y2 :: lr) z) y2 ≠ none := by rw [← hF.dled hU1']; exact (ne_led _ _ _).2 (by rw [hsy]; simp)
              obtain ⟨s2, hs2⟩ := Option.ne_none_iff_exists'.1 hny
              have hby2 : byOf m.L y2 = s2.by_ := by rw [← by_led (y := z) (y2 :: lr) m.L y2, hF.dled hU1']; exact byOf_some hs2
              have ff5 : Ff TQ B w1 W5 := ff.trans f6
              have hy0 := hF.fr _ _ hsy
              have HR2 : Hid _ := rredo_any (m := { m with L := dled m.L (y2 :: lr) z, now := p }) R6 I3 hlen4 (Nat.le_trans HH.out.2.2.1 ff5.size) lkp3 (by show y2 ≠ -1; omega) (s' := s2) hs2
              have dd5 := dd.ff f6 (tq_of (by decide) (by decide)) (tq_of (by decide) (by decide))
              have hlen5 : (upsD m.L la ++ dnD m.L lr).length = n5 := by obtain ⟨a', c', e', _⟩ := dd.form; cases e'; rfl
              have hsz : n5 + s2.by_.length ≤ 1000000000 := by
                have q1 := hF.ups_len la
                have q2 := hF.dn_len lr
                have q3 := hF.up_len HM.out.1.u1
                have q4 := hF.up_len hU2
                have q5 := I3.fam.few _ _ hs2
                obtain ⟨sn, hsn⟩ := Option.ne_none_iff_exists'.1 HH.out.2.2.2.1.inv.nw
                have q11 := hF.fr _ _ hsn
                have q12 := hF.rg (by omega) (hF.up_there HM.out.1.u1 HH.out.2.2.2.1.inv.nw)
                have q13 := q5.1
                rw [List.length_append] at hlen5
                omega
              have H3 : Hid (∀ v4 w4, GoneR B C r W5 v4 s2.by_ { m with L := dled m.L (y2 :: lr) z, now := y2 } w4 → ∃ a4 c4, v4 = .slice a4 s2.by_.length c4 ∧ Hid (Dw w1.heap.size (.slice a5 n5 c5) (upsD m.L la ++ dnD m.L lr) w4 ∧ Dr (fun k => w1.heap.size ≤ k) (Row w1.heap.size) (.slice a4 s2.by_.length c4) s2.by_ w4 ∧ w1.heap.size ≤ w4.heap.size ∧ Rw B C r { m with L := dled m.L (y2 :: lr) z, now := y2 } w4 ∧ Ff TQ B w1 w4 ∧ Ir w1.heap.size (.slice (some ⟨ga, 0, none⟩) NA ca) (l0 ++ [rt]) w4)) := by
                rintro v4 w4 ⟨x1, x2, x3⟩
                obtain ⟨a4, c4, rfl, _⟩ := x1.form
                exact ⟨a4, c4, rfl, dd5.ff x3 (tq_of (by decide) (by decide)) (tq_of (by decide) (by decide)), (x1.lower ff5.size ff5.size).dr, Nat.le_trans ff5.size x3.size, x2, ff5.trans x3, ia5.ffq x3⟩
              have H4 : Hid (∀ a6 c6 w4 w5, Dw w1.heap.size (.slice a5 n5 c5) (upsD m.L la ++ dnD m.L lr) w4 → Rw B C r { m with L := dled m.L (y2 :: lr) z, now := y2 } w4 → Ff TQ B w1 w4 → Ir w1.heap.size (.slice (some ⟨ga, 0, none⟩) NA ca) (l0 ++ [rt]) w4 → Dw w1.heap.size (.slice a6 (n5 + s2.by_.length) c6) (upsD m.L la ++ dnD m.L lr ++ s2.by_) w5 → w4.grownBy w5 (Value.slice a5 n5 c5).ownBlock → Below w1.heap.size w4 w5 → RgD B C r w1 m (l0 ++ [rt]) z l2 (upsD m.L la) (.slice (some ⟨ga, 0, none⟩) NA ca) (.slice a6 (n5 + s2.by_.length) c6) i2 w5) := fun a6 c6 w4 w5 x1 x2 x3 xi x4 x5 x6 => by
                obtain ⟨cs, z1, z2⟩ := x1
                have t5 := x2.app (row_lift z1 fun j hj => Nat.le_trans HH.out.2.1 (z1.lt j hj).1) x5
                unfold RgD
                rw [hdrop, hlr]
                exact ⟨by rw [dnD_cons, hby2, ← List.append_assoc]; exact x4, t5, x3.new x6, xi.app z1 x5⟩
              have hi2N : i2 < NA := by omega
              generalize hNL : ({ m with L := dled m.L lr z, now := p } : Tr).L.length = NL at c1 d1' hkN hcc1
              unfold maxLen at hcc2
              have hi2l : i2 ≤ l2.length := by omega
              clear HD dd ff ia hdrop hu2 esp hU1 hU1' hsy hU2 hlkp hFr hFr3 hnp I1 I3 hlen3 hlen4 hkf hsp hkfs hR r5 f5 r6 f6 ia5 R6 lkp3 hny hs2 ff5 hy0 dd5 hNL hW5 e3 hby2 hp hfry hlr hy2 fz hF
              go_upto_region 13 with fail
              refine wp_region_noPanic ?_
              refine wp_region_held_drew (S := fun zz => zz.cell? ⟨r, 1, none⟩ = some (.slice (some ⟨g, 0, none⟩) NL cc) ∧ zz.cell? ⟨r, 2, none⟩ = some (.int .i64 p) ∧ zz.cell? ⟨ga, i2, none⟩ = some (.int .i64 y2)) (by kernel_rfl) (⟨c1, c2, c3⟩) (fun hHeld => ?_)
              refine takeAt 0 (some 54) ?_ rfl rfl (by kernel_rfl) (by kernel_rfl) (by kernel_rfl) (fun _ _ _ h => h) (Or.inl ⟨by rfl, ?_⟩) hHeld ?_
              rotate_left
              · intro w hSw
                go_simp <;> with_reducible rfl
              try simp only [Act.put, List.setIfInBounds_toArray, List.set_cons_zero, List.set_cons_succ]
              refine takeAt 1 (some 55) ?_ rfl rfl (by kernel_rfl) (by kernel_rfl) (by kernel_rfl) (fun _ _ _ h => h) (Or.inl ⟨by rfl, ?_⟩) hHeld ?_
              rotate_left
              · intro w hSw
                go_simp <;> with_reducible rfl
              try simp only [Act.put, List.setIfInBounds_toArray, List.set_cons_zero, List.set_cons_succ]
              refine takeAt 2 (some 56) ?_ rfl rfl (by kernel_rfl) (by kernel_rfl) (by kernel_rfl) (fun _ _ _ h => h) (Or.inl ⟨by rfl, ?_⟩) hHeld ?_
              rotate_left
              · intro w hSw
                go_simp <;> with_reducible rfl
              try simp only [Act.put, List.setIfInBounds_toArray, List.set_cons_zero, List.set_cons_succ]
              refine takeAt 3 (some 57) ?_ rfl rfl (by kernel_rfl) (by kernel_rfl) (by kernel_rfl) (fun _ _ _ h => h) (Or.inl ⟨by rfl, ?_⟩) hHeld ?_
              rotate_left
              · intro w hSw
                go_simp <;> with_reducible rfl
              try simp only [Act.put, List.setIfInBounds_toArray, List.set_cons_zero, List.set_cons_succ]
              refine takeAt 4 (some 58) ?_ rfl rfl (by kernel_rfl) (by kernel_rfl) (by kernel_rfl) (fun _ _ _ h => h) (Or.inl ⟨by rfl, ?_⟩) hHeld ?_
              rotate_left
              · intro w hSw
                go_simp <;> with_reducible rfl
              try simp only [Act.put, List.setIfInBounds_toArray, List.set_cons_zero, List.set_cons_succ]
              refine takeAt 5 (some 59) ?_ rfl rfl (by kernel_rfl) (by kernel_rfl) (by kernel_rfl) (fun _ _ _ h => h) (Or.inl ⟨by rfl, ?_⟩) hHeld ?_
              rotate_left
              · intro w hSw
                go_simp <;> with_reducible rfl
              try simp only [Act.put, List.setIfInBounds_toArray, List.set_cons_zero, List.set_cons_succ]
              refine takeAt 6 (some 60) ?_ rfl rfl (by kernel_rfl) (by kernel_rfl) (by kernel_rfl) (fun _ _ _ h => h) (Or.inl ⟨by rfl, ?_⟩) hHeld ?_
              rotate_left
              · intro w hSw
                go_simp <;> with_reducible rfl
              try simp only [Act.put, List.setIfInBounds_toArray, List.set_cons_zero, List.set_cons_succ]
              refine takeAt 7 (some 61) ?_ rfl rfl (by kernel_rfl) (by kernel_rfl) (by kernel_rfl) (fun _ _ _ h => h) (Or.inl ⟨by rfl, ?_⟩) hHeld ?_
              rotate_left
              · intro w hSw
                go_simp <;> with_reducible rfl
              try simp only [Act.put, List.setIfInBounds_toArray, List.set_cons_zero, List.set_cons_succ]
              refine takeAt 8 (some 62) ?_ rfl rfl (by kernel_rfl) (by kernel_rfl) (by kernel_rfl) (fun _ _ _ h => h) (Or.inl ⟨by rfl, ?_⟩) hHeld ?_
              rotate_left
              · intro w hSw
                go_simp <;> with_reducible rfl
              try simp only [Act.put, List.setIfInBounds_toArray, List.set_cons_zero, List.set_cons_succ]
              refine takeAt 10 (some 64) ?_ rfl rfl (by kernel_rfl) (by kernel_rfl) (by kernel_rfl) (fun _ _ _ h => h) (Or.inl ⟨by rfl, ?_⟩) hHeld ?_
              rotate_left
              · intro w hSw
                go_simp <;> with_reducible rfl
              try simp only [Act.put, List.setIfInBounds_toArray, List.set_cons_zero, List.set_cons_succ]
              refine takeAt 11 (some 65) ?_ rfl rfl (by kernel_rfl) (by kernel_rfl) (by kernel_rfl) (fun _ _ _ h => h) (Or.inl ⟨by rfl, ?_⟩) hHeld ?_
              rotate_left
              · intro w hSw
                go_simp <;> with_reducible rfl
              try simp only [Act.put, List.setIfInBounds_toArray, List.set_cons_zero, List.set_cons_succ]
              refine takeAt 12 (some 66) ?_ rfl rfl (by kernel_rfl) (by kernel_rfl) (by kernel_rfl) (fun _ _ _ h => h) (Or.inl ⟨by rfl, ?_⟩) hHeld ?_
              rotate_left
              · intro w hSw
                go_simp <;> with_reducible rfl
              try simp only [Act.put, List.setIfInBounds_toArray, List.set_cons_zero, List.set_cons_succ]
              refine takeAt 13 (some 67) ?_ rfl rfl (by kernel_rfl) (by kernel_rfl) (by kernel_rfl) (fun _ _ _ h => h) (Or.inl ⟨by rfl, ?_⟩) hHeld ?_
              rotate_left
              · intro w hSw
                go_simp <;> with_reducible rfl
              try simp only [Act.put, List.setIfInBounds_toArray, List.set_cons_zero, List.set_cons_succ]
              refine callAt 9 63 60 (vals := #[.pointer (some ⟨r, 0, none⟩), .int .i64 p]) (by kernel_rfl) rfl rfl rfl rfl (by simp [Act.eval]) Try.func60 (by kernel_rfl) (by kernel_rfl) ?_
              refine Calls.mono (HF2.out _ (by first | exact Below.refl _ _ | exact kp_drew _)) ?_
              rintro e w7 ⟨rfl, rfl⟩
              refine ⟨_, rfl, hHeld, fun hHeld => ?_⟩
              try simp only [Act.put, List.setIfInBounds_toArray, List.set_cons_zero, List.set_cons_succ]
              refine takeAt 14 (some 68) ?_ rfl rfl (by kernel_rfl) (by kernel_rfl) (by kernel_rfl) (fun _ _ _ h => h) (Or.inl ⟨by rfl, ?_⟩) hHeld ?_
              rotate_left
              · intro w hSw
                go_simp <;> with_reducible rfl
              try simp only [Act.put, List.setIfInBounds_toArray, List.set_cons_zero, List.set_cons_succ]
              refine takeAt 15 (some 69) ?_ rfl rfl (by kernel_rfl) (by kernel_rfl) (by kernel_rfl) (fun _ _ _ h => h) (Or.inl ⟨by rfl, ?_⟩) hHeld ?_
              rotate_left
              · intro w hSw
                go_simp <;> with_reducible rfl
              try simp only [Act.put, List.setIfInBounds_toArray, List.set_cons_zero, List.set_cons_succ]
              refine wpAnyH_ready (rs := [16]) (by kernel_rfl) (by simp) ?_
              refine AllReadyH.cons rfl (fun K hK => ?_) AllReadyH.nil
              go_simp
              refine hK.out _ _ (by rw [HW5.out]; exact ⟨d1', d2', d3'⟩) (fun hHeld => ?_)
              clear hK K
              try simp only [Act.put, List.setIfInBounds_toArray, List.set_cons_zero, List.set_cons_succ]
              refine wpAnyH_done (by kernel_rfl) ?_ _
              refine NoPanic.normal ?_
              rw [HW5.out]
              go_wp2_with fail
              refine Calls.mono HR2.out ?_
              rintro e w4 ⟨v4, rfl, q4⟩
              obtain ⟨a4, c4, rfl, H5⟩ := H3.out _ _ q4
              clear HR2 H3 q4
              have HL : Hid ((upsD m.L la ++ dnD m.L lr).length + s2.by_.length = n5 + s2.by_.length) := by rw [hlen5]; rfl
              go_wp2_with (at_builtin; refine wpl_del (K := n5 + s2.by_.length) rfl (.tmp 75) (.tmp 76) rfl (okRow _ _) rfl H5.out.1 rfl H5.out.2.1 HL.out (by omega) H5.out.2.2.1 ?_; intro a6 c6 w5 _ _ q1 q2 q3; have H6 : Hid _ := H4.out a6 c6 w4 w5 H5.out.1 H5.out.2.2.2.1 H5.out.2.2.2.2.1 H5.out.2.2.2.2.2 q1 q2 q3; clear q1 q2 q3)
              go_roundw
              case rel => exact ⟨i2, _, c6, a6, hi2l, by first | rfl | go_num, rfl, H6.out⟩
              case measure => simp only [intOf]; omega
        · have g1 : (z != y) = true := by simpa using hz2 (by omega)
          clear hz1 hz2
          go_wp2_with fail
          go_quiet (fail)
          go_wp2_with fail
          go_roundw
          case rel => exact ⟨i + 1, _, by go_num, by omega, by first | rfl | exact drew2 _ _ _⟩
          case measure => simp only [intOf]; omega
    · have g1 : decide (y ∈ l0 ++ [rt]) = false := decide_eq_false e
      rw [g1] at HHas
      obtain ⟨s, hss⟩ := Option.ne_none_iff_exists'.1 hy
      have hfr : s.fr ≠ -1 := fun e9 => by
        obtain ⟨l9, h9⟩ := HT.out.2.2.2 y hy
        cases h9 with
        | nil => exact e (by simp)
        | cons a1 a2 a3 => rw [hss] at a1; cases a1; exact a2 e9
      have hfs := hF.fr _ _ hss
      have hby := hF.few _ _ hss
      have hlen : (upsD m.L la).length = n := by obtain ⟨a', c', e', _⟩ := dd.form; cases e'; rfl
      have hsz : n + s.by_.length ≤ 1000000000 := by
        have q1 := hF.ups_len la
        have q3 := hF.up_len u1
        have q7 := hby.1
        obtain ⟨sn, hsn⟩ := Option.ne_none_iff_exists'.1 HH.out.2.2.2.1.inv.nw
        have q11 := hF.fr _ _ hsn
        omega
      have HU : Hid _ := rundo_any (m := { m with now := y }) tt hIy.inv HH.out.2.2.2.2.2.1 (Nat.le_trans HH.out.2.2.1 ff.size) hss hfr
      rw [hIy.same hss hfr] at HU
      have H3 : Hid (∀ v4 w4, GoneR B C r wr v4 (turnD s.by_) { m with now := s.fr } w4 → ∃ a4 c4, v4 = .slice a4 s.by_.length c4 ∧ Hid (Dw w1.heap.size (.slice a' n c') (upsD m.L la) w4 ∧ Dr (fun k => w1.heap.size ≤ k) (Row w1.heap.size) (.slice a4 s.by_.length c4) (turnD s.by_) w4 ∧ w1.heap.size ≤ w4.heap.size ∧ Rw B C r { m with now := s.fr } w4 ∧ Ff TQ B w1 w4 ∧ Ir w1.heap.size (.slice (some ⟨ga, 0, none⟩) NA ca) (l0 ++ [rt]) w4)) := by
        rintro v4 w4 ⟨x1, x2, x3⟩
        obtain ⟨a4, c4, e4, _⟩ := x1.form
        rw [turnD_len] at e4
        subst e4
        exact ⟨a4, c4, rfl, dd.ff x3 (tq_of (by decide) (by decide)) (tq_of (by decide) (by decide)), (x1.lower ff.size ff.size).dr, Nat.le_trans ff.size x3.size, x2, ff.trans x3, ia.ffq x3⟩
      have H4 : Hid (∀ a5 c5 w4 w5, Dw w1.heap.size (.slice a' n c') (upsD m.L la) w4 → Rw B C r { m with now := s.fr } w4 → Ff TQ B w1 w4 → Ir w1.heap.size (.slice (some ⟨ga, 0, none⟩) NA ca) (l0 ++ [rt]) w4 → Dw w1.heap.size (.slice a5 (n + s.by_.length) c5) (upsD m.L la ++ turnD s.by_) w5 → w4.grownBy w5 (Value.slice a' n c').ownBlock → Below w1.heap.size w4 w5 → RgU B C r w1 m (l0 ++ [rt]) (.slice (some ⟨ga, 0, none⟩) NA ca) (.slice a5 (n + s.by_.length) c5) w5 ∧ nowR r w5 = s.fr.toNat) := fun a5 c5 w4 w5 x1 x2 x3 xi x4 x5 x6 => by
        obtain ⟨cs, z1, z2⟩ := x1
        have t5 := x2.app (row_lift z1 fun j hj => Nat.le_trans HH.out.2.1 (z1.lt j hj).1) x5
        refine ⟨⟨s.fr, la ++ [y], u1.snoc hss hfr, fun x hx => ?_, hF.from_there hss hfr, ?_, t5, x3.new x6, xi.app z1 x5⟩, nowR_eq t5⟩
        · rcases List.mem_append.1 hx with hx | hx
          · exact ap x hx
          · simp only [List.mem_singleton] at hx; subst hx; exact e
        · rw [upsD_app, upsD_one, byOf_some hss]; exact x4
      have hnw := nowR_eq tt
      have hme : s.fr.toNat < y.toNat := by
        have := hF.rg (by omega) (hF.from_there hss hfr)
        omega
      clear HI dd tt ff ia u1 ap hy hIy e g1 hss hfs hby
      go_wp2_with fail
      refine Calls.mono HHas.out ?_
      rintro e w3 ⟨rfl, rfl⟩
      clear HHas
      go_wp2_with fail
      refine Calls.mono HU.out ?_
      rintro e w4 ⟨v4, rfl, q4⟩
      obtain ⟨a4, c4, rfl, H5⟩ := H3.out _ _ q4
      clear HU H3 q4
      have HL : Hid ((upsD m.L la).length + (turnD s.by_).length = n + s.by_.length) := by rw [hlen, turnD_len]; rfl
      go_wp2_with (at_builtin; refine wpl_del (K := n + s.by_.length) rfl (.tmp 36) (.tmp 37) rfl (okRow _ _) rfl H5.out.1 rfl H5.out.2.1 HL.out (by omega) H5.out.2.2.1 ?_; intro a5 c5 w5 _ _ q1 q2 q3; have H6 : Hid _ := H4.out a5 c5 w4 w5 H5.out.1 H5.out.2.2.2.1 H5.out.2.2.2.2.1 H5.out.2.2.2.2.2 q1 q2 q3; clear q1 q2 q3)
      go_roundw
      case rel => exact ⟨a5, _, c5, rfl, H6.out.1⟩
      case measure => rw [H6.out.2, hnw]; exact hme
end
end Go.Proofs.Ytehghbinjfkhgaa
/- The document's Earlier and Later; each call on both trees. -/
namespace Go.Proofs.Ytehghbinjfkhgaa
open Go.ChangeShapes Go.WideShapes Go.ChangeAt Go.RowKit Go.Maps Go.MapKept
set_option linter.unusedVariables false
set_option linter.unusedSimpArgs false
set_option maxRecDepth 100000
section
variable {B C r t : Nat} {m : Tr} {w w1 : World}
/-- What the document's Later and Earlier come to. -/
def LedR (B C r : Nat) (w : World) (m : Tr) (err : Int) (seq : Int) (v : Value) (w' : World) : Prop :=
  (err ≠ 0 ∧ v = .slice none 0 0 ∧ Kp w w') ∨ (err = 0 ∧ WentR B C r w v m seq w')
set_option maxHeartbeats 8000000 in
theorem rlater_any (h : Rw B C r m w) (hC : C ≤ w.heap.size) (hB : B ≤ w.heap.size) (I : Inw m) (hn : m.next ≤ 10000) (hl : m.L.length ≤ 250) {k : Nat} {n : Int} (hk : (m.L.map St.seq)[k]? = some m.now) {err seq : Int}
    (hc : (n < 1 ∧ err = 1) ∨ (1 ≤ n ∧ k + 1 = m.L.length ∧ err = 121) ∨ (1 ≤ n ∧ err = 0 ∧ ∃ j : Nat, min n ((m.L.length - (k + 1) : Nat) : Int) = (j : Int) + 1 ∧ (m.L.map St.seq)[k + 1 + j]? = some seq)) :
    Calls Try.prog 45 #[.pointer (some ⟨r, 0, none⟩), .int .i64 n] w fun e w' => ∃ v, e = .returned (.tuple #[v, .int .i64 err]) ∧ LedR B C r w m err seq v w' := by
  have hkl := (List.getElem?_eq_some_iff.1 hk).1
  rw [List.length_map] at hkl
  have HF : Hid _ := find_some h hl I.inv.nodup hk
  have hR := h
  obtain ⟨v, vs, hb⟩ := hR
  have c1 := hb.box.at (j := 1) rfl
  have c2 := hb.box.at (j := 2) rfl
  obtain ⟨a, cp, hv, hc1, hc2⟩ := owns_form hb.row
  rw [hv] at c1
  unfold maxLen at hc2
  rcases hc with ⟨h1, rfl⟩ | ⟨h1, h2, rfl⟩ | ⟨h1, rfl, j, h2, h3⟩
  · have d1 : decide (n < 1) = true := decide_eq_true h1
    clear HF h hb hv
    go_enter Try.func45, Try.ntmps45
    go_wp2_with fail
    go_ret2
    exact ⟨_, rfl, .inl ⟨by decide, rfl, Below.refl _ _⟩⟩
  · have d1 : decide (n < 1) = false := decide_eq_false (by omega)
    have d2 : (m.L.length : Int) - 1 - (k : Int) = 0 := by omega
    generalize m.L.length = N at *
    clear h hb hv hk
    go_enter Try.func45, Try.ntmps45
    go_wp2_with fail
    refine Calls.mono HF.out ?_
    rintro e w1 ⟨rfl, rfl⟩
    clear HF
    go_wp2_with fail
    go_ret2
    exact ⟨_, rfl, .inl ⟨by decide, rfl, Below.refl _ _⟩⟩
  · have d1 : decide (n < 1) = false := decide_eq_false (by omega)
    have hkj := (List.getElem?_eq_some_iff.1 h3).1
    rw [List.length_map] at hkj
    have d2 : (m.L.length : Int) - 1 - (k : Int) = ((m.L.length - (k + 1) : Nat) : Int) := by omega
    have d3 : (((m.L.length - (k + 1) : Nat) : Int) == 0) = false := by simp; omega
    have hj0 : ((k : Int) + min n ((m.L.length : Int) - 1 - (k : Int))) = ((k + 1 + j : Nat) : Int) := by rw [d2, h2]; omega
    have HG : Hid _ := rgo_any h hC hB I hn hl (look_there I.inv.sq h3)
    obtain ⟨s, hs, e9⟩ : ∃ s, m.L[k + 1 + j]? = some s ∧ s.seq = seq := by
      rw [List.getElem?_map] at h3
      obtain ⟨s, q1, q2⟩ := Option.map_eq_some_iff.1 h3
      exact ⟨s, q1, q2⟩
    obtain ⟨g, cc, u, e8, _, _, _, _, q0, _⟩ := hb.cell hs
    rw [hv] at e8; cases e8
    rw [e9] at q0
    have d5 : (((m.L.length : Int) - 1 - (k : Int)) == 0) = false := by rw [d2]; exact d3
    have hkjI : ((k + 1 + j : Nat) : Int) < (m.L.length : Int) := by omega
    have hjr : (m.L.length : Int) - 1 ≤ 9223372036854775807 := by omega
    have hb1 : -9223372036854775808 ≤ (m.L.length : Int) - 1 - (k : Int) := by omega
    have d9 : (k : Int) + min n ((m.L.length : Int) - 1 - (k : Int)) ≤ 9223372036854775807 := by rw [hj0]; omega
    generalize m.L.length = N at *
    clear h hb hv hk hs h2 h3 d2 d3
    go_enter Try.func45, Try.ntmps45
    go_wp2_with fail
    refine Calls.mono HF.out ?_
    rintro e w1 ⟨rfl, rfl⟩
    clear HF
    go_wp2_with fail
    refine Calls.mono HG.out ?_
    rintro e w2 ⟨v2, rfl, q2⟩
    have H2 : Hid _ := q2
    clear HG q2
    go_wp2_with fail
    go_ret2
    exact ⟨_, rfl, .inr ⟨rfl, H2.out⟩⟩
set_option maxHeartbeats 8000000 in
theorem rearlier_any (h : Rw B C r m w) (hC : C ≤ w.heap.size) (hB : B ≤ w.heap.size) (I : Inw m) (hn : m.next ≤ 10000) (hl : m.L.length ≤ 250) {k : Nat} {n : Int} (hk : (m.L.map St.seq)[k]? = some m.now) {err seq : Int}
    (hc : (n < 1 ∧ err = 1) ∨ (1 ≤ n ∧ k = 0 ∧ err = 121) ∨ (1 ≤ n ∧ err = 0 ∧ ∃ j : Nat, min n (k : Int) = (j : Int) + 1 ∧ (m.L.map St.seq)[k - (j + 1)]? = some seq)) :
    Calls Try.prog 44 #[.pointer (some ⟨r, 0, none⟩), .int .i64 n] w fun e w' => ∃ v, e = .returned (.tuple #[v, .int .i64 err]) ∧ LedR B C r w m err seq v w' := by
  have hkl := (List.getElem?_eq_some_iff.1 hk).1
  rw [List.length_map] at hkl
  have HF : Hid _ := find_some h hl I.inv.nodup hk
  have hR := h
  obtain ⟨v, vs, hb⟩ := hR
  have c1 := hb.box.at (j := 1) rfl
  have c2 := hb.box.at (j := 2) rfl
  obtain ⟨a, cp, hv, hc1, hc2⟩ := owns_form hb.row
  rw [hv] at c1
  unfold maxLen at hc2
  rcases hc with ⟨h1, rfl⟩ | ⟨h1, h2, rfl⟩ | ⟨h1, rfl, j, h2, h3⟩
  · have d1 : decide (n < 1) = true := decide_eq_true h1
    clear HF h hb hv
    go_enter Try.func44, Try.ntmps44
    go_wp2_with fail
    go_ret2
    exact ⟨_, rfl, .inl ⟨by decide, rfl, Below.refl _ _⟩⟩
  · have d1 : decide (n < 1) = false := decide_eq_false (by omega)
    subst h2
    generalize m.L.length = N at *
    clear h hb hv hk
    go_enter Try.func44, Try.ntmps44
    go_wp2_with fail
    refine Calls.mono HF.out ?_
    rintro e w1 ⟨rfl, rfl⟩
    clear HF
    go_wp2_with fail
    go_ret2
    exact ⟨_, rfl, .inl ⟨by decide, rfl, Below.refl _ _⟩⟩
  · have d1 : decide (n < 1) = false := decide_eq_false (by omega)
    have hkj := (List.getElem?_eq_some_iff.1 h3).1
    rw [List.length_map] at hkj
    have hkp : j + 1 ≤ k := by omega
    have d3 : ((k : Int) == 0) = false := by simp; omega
    obtain ⟨ix, hix⟩ : ∃ ix, k - (j + 1) = ix := ⟨_, rfl⟩
    rw [hix] at h3 hkj
    have hj0 : max ((k : Int) - min n (k : Int)) 0 = (ix : Int) := by rw [h2]; omega
    have HG : Hid _ := rgo_any h hC hB I hn hl (look_there I.inv.sq h3)
    obtain ⟨s, hs, e9⟩ : ∃ s, m.L[ix]? = some s ∧ s.seq = seq := by
      rw [List.getElem?_map] at h3
      obtain ⟨s, q1, q2⟩ := Option.map_eq_some_iff.1 h3
      exact ⟨s, q1, q2⟩
    obtain ⟨g, cc, u, e8, _, _, _, _, q0, _⟩ := hb.cell hs
    rw [hv] at e8; cases e8
    rw [e9] at q0
    have hb1 : -9223372036854775808 ≤ (k : Int) - min n (k : Int) := by omega
    have hb2 : (k : Int) - min n (k : Int) ≤ 9223372036854775807 := by omega
    generalize m.L.length = N at *
    clear h hb hv hk hs h2 h3 hix
    go_enter Try.func44, Try.ntmps44
    go_wp2_with fail
    refine Calls.mono HF.out ?_
    rintro e w1 ⟨rfl, rfl⟩
    clear HF
    go_wp2_with fail
    refine Calls.mono HG.out ?_
    rintro e w2 ⟨v2, rfl, q2⟩
    have H2 : Hid _ := q2
    clear HG q2
    go_wp2_with fail
    go_ret2
    exact ⟨_, rfl, .inr ⟨rfl, H2.out⟩⟩
end
end Go.Proofs.Ytehghbinjfkhgaa
