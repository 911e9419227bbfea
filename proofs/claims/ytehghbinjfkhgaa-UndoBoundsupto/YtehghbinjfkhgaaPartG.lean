/- Texts that the proof of the law stands on: HR, HS, VX, VW, ZK, ZN, ZO, XD, XB. -/
import Derived.Test.YtehghbinjfkhgaaPartF
import Derived.Test.YtehghbinjfkhgaaPartE
import Derived.Test.YtehghbinjfkhgaaPartC
import Derived.Test.YtehghbinjfkhgaaPartD
import Derived.Laws.StructEq
import Derived.Laws.Tables
/- The document's Add, whatever room there is. -/
namespace Go.Proofs.Ytehghbinjfkhgaa
open Go.ChangeShapes Go.WideShapes Go.ChangeAt Go.RowKit Go.Maps Go.MapKept
set_option linter.unusedVariables false
set_option linter.unusedSimpArgs false
set_option maxRecDepth 100000
/-- How many lie in the document's tree at r. -/
def cntR (r : Nat) (w : World) : Nat := match w.cell? ⟨r, 1, none⟩ with
  | some (.slice _ n _) => n
  | _ => 0
theorem cntR_eq {B C r : Nat} {m : Tr} {w : World} (h : Rw B C r m w) : cntR r w = m.L.length := by
  obtain ⟨v, vs, h⟩ := h
  unfold cntR
  rw [h.box.at (j := 1) rfl]
  obtain ⟨a, c, e, _⟩ := owns_form h.row
  rw [e]
/-- Where the loop of Add stands. -/
def LooR (B r : Nat) (m : Tr) (ds : List Dl) (w wr : World) : Prop :=
  (Rw B wr.heap.size r (addT m ds) wr ∧ Ff TQ B w wr) ∨ (m.most < ((addT m ds).L.length : Int) ∧ Rw B wr.heap.size r (evT (addT m ds)) wr ∧ Ff TQ B w wr)
section
variable {B C r : Nat} {v : Value} {vs : List Value} {m : Tr} {w w1 : World}
set_option maxHeartbeats 16000000 in
theorem radd_any (h : Rw B C r m w) (I0 : Inw m) (hn : m.next ≤ 9999) (hm : (m.L.length : Int) ≤ m.most) (hmo : 1 ≤ m.most ∧ m.most ≤ 200) (hB : B ≤ w.heap.size)
    {P : Nat → Prop} {X : Xl} {D : Nat} (ok : Okx D X) {dv : Value} {ds : List Dl} (hd : Dr P X dv ds w) (hX : ∀ {v ls w w'}, X v ls w → Ff TQ B w w' → X v ls w') (hP : ∀ {w w'}, Ff TQ B w w' → Dr P X dv ds w → Dr P X dv ds w') (hf : Few 2000 ds) :
    Calls Try.prog 46 #[.pointer (some ⟨r, 0, none⟩), dv] w fun e w' => e = .returned (.int .i64 m.next) ∧ Rw B w'.heap.size r (addE m ds) w' ∧ Ff TQ B w w' := by
  have I := I0.inv
  have hl : m.L.length ≤ 240 := by omega
  have HJ : Hid (Inw m ∧ m.next ≤ 9999 ∧ (m.L.length : Int) ≤ m.most ∧ (1 ≤ m.most ∧ m.most ≤ 200) ∧ Few 2000 ds) := ⟨I0, hn, hm, hmo, hf⟩
  obtain ⟨i9, hi9, z0, z1, z2⟩ := info_parts infoRS
  have hlt := I.lt
  have hxn := I.fam.none_next
  obtain ⟨v, vs, h⟩ := h
  have c3 := h.box.at (j := 3) rfl
  have g3 := h.box.fz 3
  obtain ⟨k, hk⟩ := idx_of I.nw
  obtain ⟨s0, hs0⟩ := Option.ne_none_iff_exists'.1 I.nw
  have hks := at_of I.sq hk hs0
  obtain ⟨W1, hW1⟩ : ∃ W1, w.setCell ⟨r, 3, none⟩ (.int .i64 (m.next + 1)) = W1 := ⟨_, rfl⟩
  have HW1 : Hid (_ = W1) := hW1
  obtain ⟨r1, f1⟩ := h.nxt (m.next + 1)
  rw [hW1] at r1 f1
  have hd1 := hP f1 hd
  have y1 := r1.box.at (j := 1) rfl
  have y2 := r1.box.at (j := 2) rfl
  obtain ⟨g, cp, u0, rfl, hBg, hc1, hc2, _, _⟩ := h.cell hks
  obtain ⟨da, dn, dc, rfl⟩ : ∃ a n c, dv = .slice a n c := by obtain ⟨a, c, rfl, _⟩ := hd.form; exact ⟨a, _, c, rfl⟩
  have HC : Hid (∀ z, Kp W1 z → Calls Try.prog 61 #[.slice da dn dc] z fun e w' => ∃ v', e = .returned v' ∧ Dw 0 v' ds w' ∧ Kp W1 w') := fun z kz => (lent_any ok (hd1.kp ok kz) hf (by decide)).mono (by rintro e w' ⟨v', rfl, q1, q2⟩; exact ⟨v', rfl, q1.zero, kp_trans kz q2⟩)
  have HR : Hid (Rb B C r (.slice (some ⟨g, 0, none⟩) m.L.length cp) vs { m with next := m.next + 1 } W1 ∧ Ff TQ B w W1 ∧ B ≤ W1.heap.size) := ⟨r1, f1, Nat.le_trans hB f1.size⟩
  have HI : Hid (Inv m ∧ (m.L.map St.seq)[k]? = some m.now ∧ look m.L m.next = none ∧ (m.L.length : Int) ≤ m.most ∧ m.L.length ≤ 240) := ⟨I, hk, hxn, hm, hl⟩
  obtain ⟨NL, hNL⟩ : ∃ n, m.L.length = n := ⟨_, rfl⟩
  have HNL : Hid (m.L.length = NL) := hNL
  have HADD : Hid (∀ w3 dv', Dw 0 dv' ds w3 → Kp W1 w3 →
      (w3.alloc (.cells #[.int .i64 m.next, .int .i64 m.now, dv', .int .i64 (-1)] 81)).ownsRow B 81 4 (.slice (some ⟨g, 0, none⟩) NL cp) NL (flatR m.L vs) ∧
      (∀ j u, ([.int .i64 m.next, .int .i64 m.now, dv', .int .i64 (-1)] : List Value)[j]? = some u → (w3.alloc (.cells #[.int .i64 m.next, .int .i64 m.now, dv', .int .i64 (-1)] 81)).cell? ((⟨w3.heap.size, 0, none⟩ : Addr).add j) = some u) ∧
      (∀ u ∈ ([.int .i64 m.next, .int .i64 m.now, dv', .int .i64 (-1)] : List Value), u.oneCell' = true) ∧
      B ≤ (w3.alloc (.cells #[.int .i64 m.next, .int .i64 m.now, dv', .int .i64 (-1)] 81)).heap.size ∧
      ∀ w5 v5, w5.ownsRow B 81 4 v5 (NL + 1) (flatR m.L vs ++ [.int .i64 m.next, .int .i64 m.now, dv', .int .i64 (-1)]) → (w3.alloc (.cells #[.int .i64 m.next, .int .i64 m.now, dv', .int .i64 (-1)] 81)).grownBy w5 (Value.slice (some ⟨g, 0, none⟩) NL cp).ownBlock →
        w5.cell? ⟨r, 1, none⟩ = some (.slice (some ⟨g, 0, none⟩) NL cp) ∧ w5.frozen? ⟨r, 1, none⟩ = false ∧ w5.cell? ⟨r, 2, none⟩ = some (.int .i64 m.now) ∧ (w5.setCell ⟨r, 1, none⟩ v5).cell? ⟨r, 2, none⟩ = some (.int .i64 m.now) ∧
        Hid (Rb B w5.heap.size r v5 (vs ++ [dv']) { m with next := m.next + 1, L := m.L ++ [⟨m.next, m.now, -1, ds⟩] } (w5.setCell ⟨r, 1, none⟩ v5) ∧ Ff TQ B w (w5.setCell ⟨r, 1, none⟩ v5))) := fun w3 dv' d3 k3 => by
    have k4 : Kp W1 (w3.alloc (.cells #[.int .i64 m.next, .int .i64 m.now, dv', .int .i64 (-1)] 81)) := kp_more k3 _
    have rb4 := HR.out.1.kp k4
    have row4 : World.ownsRow (w3.alloc (.cells #[.int .i64 m.next, .int .i64 m.now, dv', .int .i64 (-1)] 81)) B 81 4 (.slice (some ⟨g, 0, none⟩) m.L.length cp) m.L.length (flatR m.L vs) := rb4.row
    refine ⟨by rw [hNL] at row4; exact row4, fun j u hj => by rw [addr_add]; exact (Lc.new w3 [.int .i64 m.next, .int .i64 m.now, dv', .int .i64 (-1)] 81).at hj, fun u hu => ?_, Nat.le_trans HR.out.2.2 k4.size, fun w5 v5 x1 x2 => ?_⟩
    · obtain ⟨a, c, rfl, _⟩ := d3.form
      simp only [List.mem_cons, List.not_mem_nil, or_false] at hu
      rcases hu with rfl | rfl | rfl | rfl <;> rfl
    · rw [← hNL] at x1 x2
      have b5 := rb4.box.fr (fr_grown x2) fun e => row_ne rb4.row rb4.box (by decide) e.symm
      obtain ⟨q1, q2⟩ := rb4.add (s := ⟨m.next, m.now, -1, ds⟩) (d3.kp (okRow _ _) (kp_alloc _ _)) x1 x2
      rw [hNL] at b5
      exact ⟨b5.at (j := 1) rfl, b5.fz _, b5.at (j := 2) rfl, q1.box.at (j := 2) rfl, q1, (HR.out.2.1.trans (Ff.kp k4)).trans q2⟩
  rw [hNL] at y1 hc1 hl hm
  clear h r1 f1 hd hd1 hk hs0 hks hxn hW1 hf ok I hNL I0 hmo
  unfold maxLen at hc2
  go_enter Try.func46, Try.ntmps46
  go_upto_region 3 with fail
  rw [HW1.out]
  refine wp_region_noPanic ?_
  refine wp_region_held_drew (S := fun z => z.cell? ⟨r, 2, none⟩ = some (.int .i64 m.now)) (by kernel_rfl) (y2) (fun hHeld => ?_)
  refine takeAt 0 (some 17) ?_ rfl rfl (by kernel_rfl) (by kernel_rfl) (by kernel_rfl) (fun _ _ _ h => h) (Or.inl ⟨by rfl, ?_⟩) hHeld ?_
  rotate_left
  · intro w hSw
    go_simp <;> with_reducible rfl
  try simp only [Act.put, List.setIfInBounds_toArray, List.set_cons_zero, List.set_cons_succ]
  refine takeAt 1 (some 18) ?_ rfl rfl (by kernel_rfl) (by kernel_rfl) (by kernel_rfl) (fun _ _ _ h => h) (Or.inl ⟨by rfl, ?_⟩) hHeld ?_
  rotate_left
  · intro w hSw
    go_simp <;> with_reducible rfl
  try simp only [Act.put, List.setIfInBounds_toArray, List.set_cons_zero, List.set_cons_succ]
  refine takeAt 2 (some 19) ?_ rfl rfl (by kernel_rfl) (by kernel_rfl) (by kernel_rfl) (fun _ _ _ h => h) (Or.inl ⟨by rfl, ?_⟩) hHeld ?_
  rotate_left
  · intro w hSw
    go_simp <;> with_reducible rfl
  try simp only [Act.put, List.setIfInBounds_toArray, List.set_cons_zero, List.set_cons_succ]
  refine takeAt 3 (some 20) ?_ rfl rfl (by kernel_rfl) (by kernel_rfl) (by kernel_rfl) (fun _ _ _ h => h) (Or.inl ⟨by rfl, ?_⟩) hHeld ?_
  rotate_left
  · intro w hSw
    go_simp <;> with_reducible rfl
  try simp only [Act.put, List.setIfInBounds_toArray, List.set_cons_zero, List.set_cons_succ]
  refine takeAt 5 (some 22) ?_ rfl rfl (by kernel_rfl) (by kernel_rfl) (by kernel_rfl) (fun _ _ _ h => h) (Or.inl ⟨by rfl, ?_⟩) hHeld ?_
  rotate_left
  · intro w hSw
    go_simp <;> with_reducible rfl
  try simp only [Act.put, List.setIfInBounds_toArray, List.set_cons_zero, List.set_cons_succ]
  refine takeAt 6 (some 23) ?_ rfl rfl (by kernel_rfl) (by kernel_rfl) (by kernel_rfl) (fun _ _ _ h => h) (Or.inl ⟨by rfl, ?_⟩) hHeld ?_
  rotate_left
  · intro w hSw
    go_simp <;> with_reducible rfl
  try simp only [Act.put, List.setIfInBounds_toArray, List.set_cons_zero, List.set_cons_succ]
  refine takeAt 7 (some 24) ?_ rfl rfl (by kernel_rfl) (by kernel_rfl) (by kernel_rfl) (fun _ _ _ h => h) (Or.inl ⟨by rfl, ?_⟩) hHeld ?_
  rotate_left
  · intro w hSw
    go_simp <;> with_reducible rfl
  try simp only [Act.put, List.setIfInBounds_toArray, List.set_cons_zero, List.set_cons_succ]
  refine takeAt 8 (some 25) ?_ rfl rfl (by kernel_rfl) (by kernel_rfl) (by kernel_rfl) (fun _ _ _ h => h) (Or.inl ⟨by rfl, ?_⟩) hHeld ?_
  rotate_left
  · intro w hSw
    go_simp <;> with_reducible rfl
  try simp only [Act.put, List.setIfInBounds_toArray, List.set_cons_zero, List.set_cons_succ]
  refine takeAt 9 (some 26) ?_ rfl rfl (by kernel_rfl) (by kernel_rfl) (by kernel_rfl) (fun _ _ _ h => h) (Or.inl ⟨by rfl, ?_⟩) hHeld ?_
  rotate_left
  · intro w hSw
    go_simp <;> with_reducible rfl
  try simp only [Act.put, List.setIfInBounds_toArray, List.set_cons_zero, List.set_cons_succ]
  refine takeAt 10 (some 27) ?_ rfl rfl (by kernel_rfl) (by kernel_rfl) (by kernel_rfl) (fun _ _ _ h => h) (Or.inl ⟨by rfl, ?_⟩) hHeld ?_
  rotate_left
  · intro w hSw
    go_simp <;> with_reducible rfl
  try simp only [Act.put, List.setIfInBounds_toArray, List.set_cons_zero, List.set_cons_succ]
  refine wpAnyH_ready (rs := [4, 11]) (by kernel_rfl) (by simp) ?_
  refine AllReadyH.cons rfl (fun K hK => ?ca) (AllReadyH.cons rfl (fun K hK => ?cb) AllReadyH.nil)
  case' ca =>
    go_simp
    refine hK.out _ _ hHeld (fun hHeld => ?_)
    clear hK K
    try simp only [Act.put, List.setIfInBounds_toArray, List.set_cons_zero, List.set_cons_succ]
    refine callAt 11 28 61 (vals := #[.slice da dn dc]) (by kernel_rfl) rfl rfl rfl rfl (by simp [Act.eval]) Try.func61 (by kernel_rfl) (by kernel_rfl) ?_
    refine Calls.mono (HC.out _ (by first | exact Below.refl _ _ | exact kp_drew _)) ?_
    rintro e w3 ⟨lv, rfl, d3, k3⟩
    obtain ⟨lva, lvn, lvc, rfl⟩ : ∃ a n c, lv = .slice a n c := by obtain ⟨a, c, rfl, _⟩ := d3.form; exact ⟨a, _, c, rfl⟩
    have yl := kp_cell k3 y1
    have y22 := kp_cell k3 y2
    obtain ⟨n1, n2, n3, n4, n5⟩ := HADD.out w3 _ d3 k3
    have N1 : Hid _ := n1
    have N2 : Hid _ := n2
    have N3 : Hid _ := n3
    have N4 : Hid _ := n4
    have N5 : Hid _ := n5
    clear n1 n2 n3 n4 n5 d3 HADD HC
    refine ⟨_, rfl, y22, fun hHeld => ?_⟩
    try simp only [Act.put, List.setIfInBounds_toArray, List.set_cons_zero, List.set_cons_succ]
    refine takeAt 12 (some 29) ?_ rfl rfl (by kernel_rfl) (by kernel_rfl) (by kernel_rfl) (fun _ _ _ h => h) (Or.inl ⟨by rfl, ?_⟩) hHeld ?_
    rotate_left
    · intro w hSw
      go_simp <;> with_reducible rfl
    try simp only [Act.put, List.setIfInBounds_toArray, List.set_cons_zero, List.set_cons_succ]
    refine wpAnyH_ready (rs := [13]) (by kernel_rfl) (by simp) ?_
    refine AllReadyH.cons rfl (fun K hK => ?_) AllReadyH.nil
    go_simp
    refine hK.out _ _ (kp_cell (kp_alloc _ _) hHeld) (fun hHeld => ?_)
    clear hK K
    try simp only [Act.put, List.setIfInBounds_toArray, List.set_cons_zero, List.set_cons_succ]
    refine wpAnyH_ready (rs := [14]) (by kernel_rfl) (by simp) ?_
    refine AllReadyH.cons rfl (fun K1 hK => ?_) AllReadyH.nil
    refine step_append_lies _ rfl (.tmp 21) (.tmp 30) 46 rfl B 81 i9 _ 4 48 Try.underlying46 hi9 z0 z1 z2 rfl (by decide) (.slice (some ⟨g, 0, none⟩) NL cp) NL (flatR m.L vs) rfl N1.out ⟨w3.heap.size, 0, none⟩ 1 1 [.int .i64 m.next, .int .i64 m.now, .slice lva lvn lvc, .int .i64 (-1)] rfl rfl N2.out N3.out (by omega) (by unfold maxLen; omega) (by omega) N4.out (w3.heap.size + 1) (alloc_size _ _) ?_
    intro g5 cp5 w5 hown hgrow _ _
    obtain ⟨x1, x2, x3, x4, H5⟩ := N5.out w5 _ hown hgrow
    clear hown hgrow N1 N2 N3 N4 N5
    change K1 (Act.put _ (some 31) (.slice (some ⟨g5, 0, none⟩) (NL + 1) cp5)) w5
    refine hK.out _ _ x3 (fun hHeld => ?_)
    clear hK K1
    try simp only [Act.put, List.setIfInBounds_toArray, List.set_cons_zero, List.set_cons_succ]
    refine takeAt 15 (some 32) ?_ rfl rfl (by kernel_rfl) (by kernel_rfl) (by kernel_rfl) (fun _ _ _ h => h) (Or.inl ⟨by rfl, ?_⟩) hHeld ?_
    rotate_left
    · intro w hSw
      go_simp <;> with_reducible rfl
    try simp only [Act.put, List.setIfInBounds_toArray, List.set_cons_zero, List.set_cons_succ]
    refine takeAt 16 (some 33) ?_ rfl rfl (by kernel_rfl) (by kernel_rfl) (by kernel_rfl) (fun _ _ _ h => h) (Or.inl ⟨by rfl, ?_⟩) hHeld ?_
    rotate_left
    · intro w hSw
      go_simp <;> with_reducible rfl
    try simp only [Act.put, List.setIfInBounds_toArray, List.set_cons_zero, List.set_cons_succ]
    refine wpAnyH_ready (rs := [17]) (by kernel_rfl) (by simp) ?_
    refine AllReadyH.cons rfl (fun K hK => ?_) AllReadyH.nil
    go_simp
    refine hK.out _ _ (x4) (fun hHeld => ?_)
    clear hK K
    try simp only [Act.put, List.setIfInBounds_toArray, List.set_cons_zero, List.set_cons_succ]
    refine wpAnyH_done (by kernel_rfl) ?_ _
    refine NoPanic.normal ?_
  case' cb =>
    refine step_call 61 (vals := #[.slice da dn dc]) rfl rfl (by simp [Act.eval]) Try.func61 (by kernel_rfl) (by kernel_rfl) ?_
    refine Calls.mono (HC.out _ (by first | exact Below.refl _ _ | exact kp_drew _)) ?_
    rintro e w3 ⟨lv, rfl, d3, k3⟩
    obtain ⟨lva, lvn, lvc, rfl⟩ : ∃ a n c, lv = .slice a n c := by obtain ⟨a, c, rfl, _⟩ := d3.form; exact ⟨a, _, c, rfl⟩
    have yl := kp_cell k3 y1
    have y22 := kp_cell k3 y2
    obtain ⟨n1, n2, n3, n4, n5⟩ := HADD.out w3 _ d3 k3
    have N1 : Hid _ := n1
    have N2 : Hid _ := n2
    have N3 : Hid _ := n3
    have N4 : Hid _ := n4
    have N5 : Hid _ := n5
    clear n1 n2 n3 n4 n5 d3 HADD HC
    refine ⟨_, rfl, ?_⟩
    refine hK.out _ _ y22 (fun hHeld => ?_)
    clear hK K
    try simp only [Act.put, List.setIfInBounds_toArray, List.set_cons_zero, List.set_cons_succ]
    refine takeAt 12 (some 29) ?_ rfl rfl (by kernel_rfl) (by kernel_rfl) (by kernel_rfl) (fun _ _ _ h => h) (Or.inl ⟨by rfl, ?_⟩) hHeld ?_
    rotate_left
    · intro w hSw
      go_simp <;> with_reducible rfl
    try simp only [Act.put, List.setIfInBounds_toArray, List.set_cons_zero, List.set_cons_succ]
    refine wpAnyH_ready (rs := [4, 13]) (by kernel_rfl) (by simp) ?_
    refine AllReadyH.cons rfl (fun K hK => ?cc) (AllReadyH.cons rfl (fun K hK => ?cd) AllReadyH.nil)
    case' cc =>
      go_simp
      refine hK.out _ _ hHeld (fun hHeld => ?_)
      clear hK K
      try simp only [Act.put, List.setIfInBounds_toArray, List.set_cons_zero, List.set_cons_succ]
      refine wpAnyH_ready (rs := [13]) (by kernel_rfl) (by simp) ?_
      refine AllReadyH.cons rfl (fun K hK => ?_) AllReadyH.nil
      go_simp
      refine hK.out _ _ (kp_cell (kp_alloc _ _) hHeld) (fun hHeld => ?_)
      clear hK K
      try simp only [Act.put, List.setIfInBounds_toArray, List.set_cons_zero, List.set_cons_succ]
      refine wpAnyH_ready (rs := [14]) (by kernel_rfl) (by simp) ?_
      refine AllReadyH.cons rfl (fun K1 hK => ?_) AllReadyH.nil
      refine step_append_lies _ rfl (.tmp 21) (.tmp 30) 46 rfl B 81 i9 _ 4 48 Try.underlying46 hi9 z0 z1 z2 rfl (by decide) (.slice (some ⟨g, 0, none⟩) NL cp) NL (flatR m.L vs) rfl N1.out ⟨w3.heap.size, 0, none⟩ 1 1 [.int .i64 m.next, .int .i64 m.now, .slice lva lvn lvc, .int .i64 (-1)] rfl rfl N2.out N3.out (by omega) (by unfold maxLen; omega) (by omega) N4.out (w3.heap.size + 1) (alloc_size _ _) ?_
      intro g5 cp5 w5 hown hgrow _ _
      obtain ⟨x1, x2, x3, x4, H5⟩ := N5.out w5 _ hown hgrow
      clear hown hgrow N1 N2 N3 N4 N5
      change K1 (Act.put _ (some 31) (.slice (some ⟨g5, 0, none⟩) (NL + 1) cp5)) w5
      refine hK.out _ _ x3 (fun hHeld => ?_)
      clear hK K1
      try simp only [Act.put, List.setIfInBounds_toArray, List.set_cons_zero, List.set_cons_succ]
      refine takeAt 15 (some 32) ?_ rfl rfl (by kernel_rfl) (by kernel_rfl) (by kernel_rfl) (fun _ _ _ h => h) (Or.inl ⟨by rfl, ?_⟩) hHeld ?_
      rotate_left
      · intro w hSw
        go_simp <;> with_reducible rfl
      try simp only [Act.put, List.setIfInBounds_toArray, List.set_cons_zero, List.set_cons_succ]
      refine takeAt 16 (some 33) ?_ rfl rfl (by kernel_rfl) (by kernel_rfl) (by kernel_rfl) (fun _ _ _ h => h) (Or.inl ⟨by rfl, ?_⟩) hHeld ?_
      rotate_left
      · intro w hSw
        go_simp <;> with_reducible rfl
      try simp only [Act.put, List.setIfInBounds_toArray, List.set_cons_zero, List.set_cons_succ]
      refine wpAnyH_ready (rs := [17]) (by kernel_rfl) (by simp) ?_
      refine AllReadyH.cons rfl (fun K hK => ?_) AllReadyH.nil
      go_simp
      refine hK.out _ _ (x4) (fun hHeld => ?_)
      clear hK K
      try simp only [Act.put, List.setIfInBounds_toArray, List.set_cons_zero, List.set_cons_succ]
      refine wpAnyH_done (by kernel_rfl) ?_ _
      refine NoPanic.normal ?_
    case' cd =>
      go_simp
      refine hK.out _ _ (kp_cell (kp_alloc _ _) hHeld) (fun hHeld => ?_)
      clear hK K
      try simp only [Act.put, List.setIfInBounds_toArray, List.set_cons_zero, List.set_cons_succ]
      have yl2 := kp_cell (kp_alloc w3 (.cells #[.int .i64 m.next, .int .i64 m.now, .slice lva lvn lvc, .int .i64 (-1)] 81)) yl
      refine wpAnyH_ready (rs := [4]) (by kernel_rfl) (by simp) ?_
      refine AllReadyH.cons rfl (fun K hK => ?_) AllReadyH.nil
      go_simp
      refine hK.out _ _ (hHeld) (fun hHeld => ?_)
      clear hK K
      try simp only [Act.put, List.setIfInBounds_toArray, List.set_cons_zero, List.set_cons_succ]
      refine wpAnyH_ready (rs := [14]) (by kernel_rfl) (by simp) ?_
      refine AllReadyH.cons rfl (fun K1 hK => ?_) AllReadyH.nil
      refine step_append_lies _ rfl (.tmp 21) (.tmp 30) 46 rfl B 81 i9 _ 4 48 Try.underlying46 hi9 z0 z1 z2 rfl (by decide) (.slice (some ⟨g, 0, none⟩) NL cp) NL (flatR m.L vs) rfl N1.out ⟨w3.heap.size, 0, none⟩ 1 1 [.int .i64 m.next, .int .i64 m.now, .slice lva lvn lvc, .int .i64 (-1)] rfl rfl N2.out N3.out (by omega) (by unfold maxLen; omega) (by omega) N4.out (w3.heap.size + 1) (alloc_size _ _) ?_
      intro g5 cp5 w5 hown hgrow _ _
      obtain ⟨x1, x2, x3, x4, H5⟩ := N5.out w5 _ hown hgrow
      clear hown hgrow N1 N2 N3 N4 N5
      change K1 (Act.put _ (some 31) (.slice (some ⟨g5, 0, none⟩) (NL + 1) cp5)) w5
      refine hK.out _ _ x3 (fun hHeld => ?_)
      clear hK K1
      try simp only [Act.put, List.setIfInBounds_toArray, List.set_cons_zero, List.set_cons_succ]
      refine takeAt 15 (some 32) ?_ rfl rfl (by kernel_rfl) (by kernel_rfl) (by kernel_rfl) (fun _ _ _ h => h) (Or.inl ⟨by rfl, ?_⟩) hHeld ?_
      rotate_left
      · intro w hSw
        go_simp <;> with_reducible rfl
      try simp only [Act.put, List.setIfInBounds_toArray, List.set_cons_zero, List.set_cons_succ]
      refine takeAt 16 (some 33) ?_ rfl rfl (by kernel_rfl) (by kernel_rfl) (by kernel_rfl) (fun _ _ _ h => h) (Or.inl ⟨by rfl, ?_⟩) hHeld ?_
      rotate_left
      · intro w hSw
        go_simp <;> with_reducible rfl
      try simp only [Act.put, List.setIfInBounds_toArray, List.set_cons_zero, List.set_cons_succ]
      refine wpAnyH_ready (rs := [17]) (by kernel_rfl) (by simp) ?_
      refine AllReadyH.cons rfl (fun K hK => ?_) AllReadyH.nil
      go_simp
      refine hK.out _ _ (x4) (fun hHeld => ?_)
      clear hK K
      try simp only [Act.put, List.setIfInBounds_toArray, List.set_cons_zero, List.set_cons_succ]
      refine wpAnyH_done (by kernel_rfl) ?_ _
      refine NoPanic.normal ?_
  all_goals
    go_upto_region 4 with fail
    generalize hW6 : w5.setCell ⟨r, 1, none⟩ (.slice (some ⟨g5, 0, none⟩) (NL + 1) cp5) = W6 at H5 ⊢
    clear hW6 y1 y2 c3 g3 x1 x2 x3 x4 yl y22 k3
    obtain ⟨q6, f6⟩ := H5.out
    have hl6 : (m.L ++ [(⟨m.next, m.now, -1, ds⟩ : St)]).length = NL + 1 := by rw [List.length_append, HNL.out]; rfl
    have hnd6 := nd_snoc HI.out.1 ds
    have hk6 : ((m.L ++ [(⟨m.next, m.now, -1, ds⟩ : St)]).map St.seq)[k]? = some m.now := by
      rw [List.map_append, List.getElem?_append_left (List.getElem?_eq_some_iff.1 HI.out.2.1).1]; exact HI.out.2.1
    have hkN : k < NL := by have := (List.getElem?_eq_some_iff.1 HI.out.2.1).1; rw [List.length_map, HNL.out] at this; exact this
    have HF : Hid (∀ z, Kp W6 z → Calls Try.prog 60 #[.pointer (some ⟨r, 0, none⟩), .int .i64 m.now] z fun e w' => e = .returned (.int .i64 k) ∧ w' = z) := fun z kz => find_some (m := { m with next := m.next + 1, L := m.L ++ [⟨m.next, m.now, -1, ds⟩] }) ⟨_, _, q6.kp kz⟩ (by show (m.L ++ [_]).length ≤ 250; rw [hl6]; have := HI.out.2.2.2.2; have := HNL.out; omega) hnd6 hk6
    have y1 := q6.box.at (j := 1) rfl
    have y2 : W6.cell? ⟨r, 2, none⟩ = some (.int .i64 m.now) := q6.box.at (j := 2) rfl
    obtain ⟨s6, hs6⟩ : ∃ s, (m.L ++ [(⟨m.next, m.now, -1, ds⟩ : St)])[k]? = some s := ⟨_, List.getElem?_eq_getElem (by rw [hl6]; omega)⟩
    obtain ⟨g6, c6, u6, e6, _, hcc1, hcc2, _, _, _, _, y3, fz6⟩ := q6.cell hs6
    simp only [Value.slice.injEq, Option.some.injEq, Addr.mk.injEq, and_true, true_and] at e6
    obtain ⟨e7, e9, e8⟩ := e6
    clear e9
    rw [← e7] at y3 fz6
    rw [← e8] at hcc1 hcc2
    have y4 := fz6 (k * 4 + 3)
    obtain ⟨t6, ff6⟩ := q6.onN (n := NL + 1) (by show _ = (m.L ++ [_]).length; rw [hl6]) hnd6 hk6 m.next
    obtain ⟨W7, hW7⟩ : ∃ W7, (W6.setCell ⟨g5, k * 4 + 3, none⟩ (.int .i64 m.next)).drew = W7 := ⟨_, rfl⟩
    have HW7 : Hid (_ = W7) := hW7
    have t7 := t6.kp (kp_drew _)
    rw [hW7] at t7
    have f7 : Ff TQ B w W7 := by rw [← hW7]; exact (f6.trans ff6).trans (Ff.kp (kp_drew _))
    have y7 := t7.box.at (j := 1) rfl
    have y8 : W7.cell? ⟨r, 2, none⟩ = some (.int .i64 m.now) := t7.box.at (j := 2) rfl
    have y9 := t7.box.fz 2
    obtain ⟨t8, f8⟩ := t7.now m.next
    obtain ⟨W8, hW8⟩ : ∃ W8, W7.setCell ⟨r, 2, none⟩ (.int .i64 m.next) = W8 := ⟨_, rfl⟩
    have HW8 : Hid (_ = W8) := hW8
    rw [hW8] at t8 f8
    have x1 := t8.box.at (j := 1) rfl
    have x0 : W8.cell? ⟨r, 0, none⟩ = some (.int .i64 m.most) := t8.box.at (j := 0) rfl
    have H8 : Hid (Rw B W8.heap.size r (addT m ds) W8 ∧ Ff TQ B w W8) := by
      have e := on_snoc (L := m.L) (x := m.now) (y := m.next) (by have := HI.out.1.lt; omega) m.now (-1) ds m.next
      have t9 := t8
      rw [e] at t9
      have t10 : Rw B _ r (addT m ds) W8 := ⟨_, _, t9⟩
      exact ⟨t10.sized, f7.trans f8⟩
    have hkN1 : k < NL + 1 := by omega
    have hkI : (k : Int) < (NL : Int) + 1 := by omega
    unfold maxLen at hcc2
    rw [show ({ m with next := m.next + 1, L := m.L ++ [⟨m.next, m.now, -1, ds⟩] } : Tr).L.length = NL + 1 from hl6] at hcc1
    clear q6 f6 t6 ff6 t7 f7 t8 f8 hW7 hW8 hnd6 hk6 hs6 e7 e8 fz6 H5 HI HR hl6
    refine wp_region_noPanic ?_
    refine wp_region_held_drew (S := fun z => z.cell? ⟨r, 1, none⟩ = some (.slice (some ⟨g5, 0, none⟩) (NL + 1) cp5) ∧ z.cell? ⟨r, 2, none⟩ = some (.int .i64 m.now)) (by kernel_rfl) (⟨y1, y2⟩) (fun hHeld => ?_)
    refine takeAt 0 (some 34) ?_ rfl rfl (by kernel_rfl) (by kernel_rfl) (by kernel_rfl) (fun _ _ _ h => h) (Or.inl ⟨by rfl, ?_⟩) hHeld ?_
    rotate_left
    · intro w hSw
      go_simp <;> with_reducible rfl
    try simp only [Act.put, List.setIfInBounds_toArray, List.set_cons_zero, List.set_cons_succ]
    refine takeAt 1 (some 35) ?_ rfl rfl (by kernel_rfl) (by kernel_rfl) (by kernel_rfl) (fun _ _ _ h => h) (Or.inl ⟨by rfl, ?_⟩) hHeld ?_
    rotate_left
    · intro w hSw
      go_simp <;> with_reducible rfl
    try simp only [Act.put, List.setIfInBounds_toArray, List.set_cons_zero, List.set_cons_succ]
    refine takeAt 2 (some 36) ?_ rfl rfl (by kernel_rfl) (by kernel_rfl) (by kernel_rfl) (fun _ _ _ h => h) (Or.inl ⟨by rfl, ?_⟩) hHeld ?_
    rotate_left
    · intro w hSw
      go_simp <;> with_reducible rfl
    try simp only [Act.put, List.setIfInBounds_toArray, List.set_cons_zero, List.set_cons_succ]
    refine takeAt 3 (some 37) ?_ rfl rfl (by kernel_rfl) (by kernel_rfl) (by kernel_rfl) (fun _ _ _ h => h) (Or.inl ⟨by rfl, ?_⟩) hHeld ?_
    rotate_left
    · intro w hSw
      go_simp <;> with_reducible rfl
    try simp only [Act.put, List.setIfInBounds_toArray, List.set_cons_zero, List.set_cons_succ]
    refine takeAt 4 (some 38) ?_ rfl rfl (by kernel_rfl) (by kernel_rfl) (by kernel_rfl) (fun _ _ _ h => h) (Or.inl ⟨by rfl, ?_⟩) hHeld ?_
    rotate_left
    · intro w hSw
      go_simp <;> with_reducible rfl
    try simp only [Act.put, List.setIfInBounds_toArray, List.set_cons_zero, List.set_cons_succ]
    refine takeAt 5 (some 39) ?_ rfl rfl (by kernel_rfl) (by kernel_rfl) (by kernel_rfl) (fun _ _ _ h => h) (Or.inl ⟨by rfl, ?_⟩) hHeld ?_
    rotate_left
    · intro w hSw
      go_simp <;> with_reducible rfl
    try simp only [Act.put, List.setIfInBounds_toArray, List.set_cons_zero, List.set_cons_succ]
    refine takeAt 6 (some 40) ?_ rfl rfl (by kernel_rfl) (by kernel_rfl) (by kernel_rfl) (fun _ _ _ h => h) (Or.inl ⟨by rfl, ?_⟩) hHeld ?_
    rotate_left
    · intro w hSw
      go_simp <;> with_reducible rfl
    try simp only [Act.put, List.setIfInBounds_toArray, List.set_cons_zero, List.set_cons_succ]
    refine takeAt 7 (some 41) ?_ rfl rfl (by kernel_rfl) (by kernel_rfl) (by kernel_rfl) (fun _ _ _ h => h) (Or.inl ⟨by rfl, ?_⟩) hHeld ?_
    rotate_left
    · intro w hSw
      go_simp <;> with_reducible rfl
    try simp only [Act.put, List.setIfInBounds_toArray, List.set_cons_zero, List.set_cons_succ]
    refine takeAt 8 (some 42) ?_ rfl rfl (by kernel_rfl) (by kernel_rfl) (by kernel_rfl) (fun _ _ _ h => h) (Or.inl ⟨by rfl, ?_⟩) hHeld ?_
    rotate_left
    · intro w hSw
      go_simp <;> with_reducible rfl
    try simp only [Act.put, List.setIfInBounds_toArray, List.set_cons_zero, List.set_cons_succ]
    refine takeAt 10 (some 44) ?_ rfl rfl (by kernel_rfl) (by kernel_rfl) (by kernel_rfl) (fun _ _ _ h => h) (Or.inl ⟨by rfl, ?_⟩) hHeld ?_
    rotate_left
    · intro w hSw
      go_simp <;> with_reducible rfl
    try simp only [Act.put, List.setIfInBounds_toArray, List.set_cons_zero, List.set_cons_succ]
    refine callAt 9 43 60 (vals := #[.pointer (some ⟨r, 0, none⟩), .int .i64 m.now]) (by kernel_rfl) rfl rfl rfl rfl (by simp [Act.eval]) Try.func60 (by kernel_rfl) (by kernel_rfl) ?_
    refine Calls.mono (HF.out _ (by first | exact Below.refl _ _ | exact kp_drew _)) ?_
    rintro e w7 ⟨rfl, rfl⟩
    refine ⟨_, rfl, hHeld, fun hHeld => ?_⟩
    try simp only [Act.put, List.setIfInBounds_toArray, List.set_cons_zero, List.set_cons_succ]
    refine takeAt 11 (some 45) ?_ rfl rfl (by kernel_rfl) (by kernel_rfl) (by kernel_rfl) (fun _ _ _ h => h) (Or.inl ⟨by rfl, ?_⟩) hHeld ?_
    rotate_left
    · intro w hSw
      go_simp <;> with_reducible rfl
    try simp only [Act.put, List.setIfInBounds_toArray, List.set_cons_zero, List.set_cons_succ]
    refine takeAt 12 (some 46) ?_ rfl rfl (by kernel_rfl) (by kernel_rfl) (by kernel_rfl) (fun _ _ _ h => h) (Or.inl ⟨by rfl, ?_⟩) hHeld ?_
    rotate_left
    · intro w hSw
      go_simp <;> with_reducible rfl
    try simp only [Act.put, List.setIfInBounds_toArray, List.set_cons_zero, List.set_cons_succ]
    refine wpAnyH_ready (rs := [13]) (by kernel_rfl) (by simp) ?_
    refine AllReadyH.cons rfl (fun K hK => ?_) AllReadyH.nil
    go_simp
    refine hK.out _ _ (by rw [HW7.out]; exact ⟨y7, y8⟩) (fun hHeld => ?_)
    clear hK K
    try simp only [Act.put, List.setIfInBounds_toArray, List.set_cons_zero, List.set_cons_succ]
    refine wpAnyH_done (by kernel_rfl) ?_ _
    refine NoPanic.normal ?_
    rw [HW7.out]
    go_upto_region 6 with fail
    rw [HW8.out]
    have IA : Hid (Inw (addT m ds)) := HJ.out.1.add HJ.out.2.2.2.2
    have HA : Hid ((addT m ds).L.length = m.L.length + 1) := by
      show (setOn m.L m.now m.next ++ [_]).length = _
      rw [List.length_append, setOn_len]; rfl
    have H9 : Hid (LooR B r m ds w W8) := .inl H8.out
    clear H8 HW7 HW8
    go_loopw [] (fun wr => Hid (LooR B r m ds w wr)) (fun wr => cntR r wr)
    case atStart => exact H9
    case round =>
      clear H9
      rcases hrel.out with ⟨⟨v7, vs7, t7⟩, hf⟩ | ⟨ho, ⟨v7, vs7, t7⟩, hf⟩
      · have x0 : wr.cell? ⟨r, 0, none⟩ = some (.int .i64 m.most) := t7.box.at (j := 0) rfl
        have x1 := t7.box.at (j := 1) rfl
        have x2 : wr.cell? ⟨r, 2, none⟩ = some (.int .i64 m.now) ∨ True := .inr trivial
        obtain ⟨a7, cc7, e7, _⟩ := owns_form t7.row
        rw [e7] at x1
        have HT7 : Hid (Rb B wr.heap.size r v7 vs7 (addT m ds) wr ∧ Ff TQ B w wr) := ⟨t7, hf⟩
        clear t7 hf hrel e7 x2
        by_cases hov : m.most < ((addT m ds).L.length : Int)
        · have d1 : decide (((addT m ds).L.length : Int) > m.most) = true := decide_eq_true hov
          have d2 : decide (m.most < ((addT m ds).L.length : Int)) = true := decide_eq_true hov
          have HOV : Hid (m.most < ((addT m ds).L.length : Int)) := hov
          have HG : Hid (∀ k, Calls Try.prog 64 #[.pointer (some ⟨r, 0, none⟩)] (wr.drewN k) fun e w' => e = .returned (.tuple #[]) ∧ LooR B r m ds w w' ∧ cntR r w' < cntR r wr) := fun k => by
            have h1 := HA.out
            have h2 := HJ.out.2.2.2.1
            have h3 := HJ.out.2.2.1
            refine (revict_any ⟨_, _, HT7.out.1.kp (kp_drewN _ k)⟩ IA.out (by omega) (by omega) (Nat.le_trans hB (Nat.le_trans HT7.out.2.size (kp_drewN wr k).size))).mono ?_
            rintro e w' ⟨rfl, r1, r2⟩
            refine ⟨rfl, .inr ⟨HOV.out, r1.sized, (HT7.out.2.trans (Ff.kp (kp_drewN _ _))).trans r2⟩, ?_⟩
            rw [cntR_eq ⟨_, _, HT7.out.1⟩, cntR_eq r1]
            have := ev_len IA.out (by omega)
            omega
          clear HT7 hov
          generalize (addT m ds).L.length = K7 at x1 d1 d2
          go_wp2_with fail
          go_quiet (fail)
          go_wp2_with fail
          refine Calls.mono (HG.out _) ?_
          rintro e w9 ⟨rfl, r1, r2⟩
          have H9 : Hid (LooR B r m ds w w9) := r1
          have HM9 : Hid (cntR r w9 < cntR r wr) := r2
          clear HG r1 r2
          go_wp2_with fail
          go_roundw
          case rel => exact H9
          case measure => exact HM9.out
        · have d1 : decide (((addT m ds).L.length : Int) > m.most) = false := decide_eq_false hov
          have d2 : decide (m.most < ((addT m ds).L.length : Int)) = false := decide_eq_false hov
          have HX : Hid (∀ k, Rw B (wr.drewN k).heap.size r (addE m ds) (wr.drewN k) ∧ Ff TQ B w (wr.drewN k)) := fun k => by
            have e1 : addE m ds = addT m ds := by unfold addE; rw [if_neg hov]
            rw [e1]
            exact ⟨(Rw.kp ⟨_, _, HT7.out.1⟩ (kp_drewN _ _)).sized, HT7.out.2.trans (Ff.kp (kp_drewN _ _))⟩
          clear HT7 hov
          generalize (addT m ds).L.length = K7 at x1 d1 d2
          go_wp2_with fail
          go_quiet (fail)
          go_wp2_with fail
          go_ret
          exact ⟨rfl, HX.out _⟩
      · have hpn := ev_now (addT m ds)
        have x0 : wr.cell? ⟨r, 0, none⟩ = some (.int .i64 m.most) := by have := t7.box.at (j := 0) rfl; rw [hpn.2.2] at this; exact this
        have x1 := t7.box.at (j := 1) rfl
        obtain ⟨a7, cc7, e7, _⟩ := owns_form t7.row
        rw [e7] at x1
        have hno : ¬ m.most < ((evT (addT m ds)).L.length : Int) := by
          have := ev_len IA.out (by have := HA.out; have := HJ.out.2.2.2.1; omega)
          have := HA.out
          have := HJ.out.2.2.1
          omega
        have d1 : decide (((evT (addT m ds)).L.length : Int) > m.most) = false := decide_eq_false hno
        have d2 : decide (m.most < ((evT (addT m ds)).L.length : Int)) = false := decide_eq_false hno
        have HX : Hid (∀ k, Rw B (wr.drewN k).heap.size r (addE m ds) (wr.drewN k) ∧ Ff TQ B w (wr.drewN k)) := fun k => by
          have e1 : addE m ds = evT (addT m ds) := by unfold addE; rw [if_pos ho]
          rw [e1]
          exact ⟨(Rw.kp ⟨_, _, t7⟩ (kp_drewN _ _)).sized, hf.trans (Ff.kp (kp_drewN _ _))⟩
        clear t7 hf ho hrel hno hpn e7
        generalize (evT (addT m ds)).L.length = K7 at x1 d1 d2
        go_wp2_with fail
        go_quiet (fail)
        go_wp2_with fail
        go_ret
        exact ⟨rfl, HX.out _⟩
end
end Go.Proofs.Ytehghbinjfkhgaa
/- A call on both, whatever room there is. -/
namespace Go.Proofs.Ytehghbinjfkhgaa
open Go.ChangeShapes Go.WideShapes Go.ChangeAt Go.RowKit Go.Maps Go.MapKept
set_option linter.unusedVariables false
set_option linter.unusedSimpArgs false
set_option maxRecDepth 100000
section
variable {B C r t : Nat} {m m' : Tr} {w w1 : World}
/-- What a call leaves. -/
structure StpE (m m' : Tr) : Prop where
  nx : m'.next ≤ m.next + 1
  mo : m'.most = m.most
  len : (m'.L.length : Int) ≤ m.most
theorem Kps.stpE (h : Kps m m') (hm : (m.L.length : Int) ≤ m.most) : StpE m m' := ⟨by rw [h.nx]; omega, h.mo, by rw [h.len]; exact hm⟩
theorem stpE_add {ds : List Dl} (I : Inw m) (hf : Few 2000 ds) (hmo : 1 ≤ m.most) (hm : (m.L.length : Int) ≤ m.most) : StpE m (addE m ds) := ⟨by rw [(addE_parts m ds).2.1]; exact Int.le_refl _, (addE_parts m ds).2.2, (addE_len I hf hmo hm).1⟩
def DneE (B t r : Nat) (m : Tr) (w w' : World) : Prop := ∃ C m', Bt B C t r m' w' ∧ StpE m m' ∧ Below B w w'
/-- What is left behind the document's Add. -/
def AftE (B t r : Nat) (m : Tr) (dv : Value) (ds : List Dl) (w w1 : World) : Prop :=
  (∀ b cs, Lc 45 b cs w → Lc 45 b cs w1) ∧ ∀ z, Kp w1 z → Calls Try.prog 46 #[.pointer (some ⟨r, 0, none⟩), dv] z fun e w2 => e = .returned (.int .i64 m.next) ∧ Bt B w2.heap.size t r (addE m ds) w2 ∧ Below B w w2
theorem add_ev (h : Bt B C t r m w) (hmo : 1 ≤ m.most ∧ m.most ≤ 200) (hn : m.next ≤ 8999) (hm : (m.L.length : Int) ≤ m.most) {dv : Value} {ds : List Dl} (hd : DArg B dv ds w) (hf : Few 2000 ds) :
    Calls Try.prog 12 #[.pointer (some ⟨t, 0, none⟩), dv] w fun e w1 => e = .returned (.int .i64 m.next) ∧ AftE B t r m dv ds w w1 := by
  have I := h.inw
  refine (add_any h.tw I (by omega) hm hmo h.hB (okSl B) hd hf).mono ?_
  rintro e w1 ⟨rfl, q1, q2⟩
  refine ⟨rfl, fun b cs hb => hb.ff q2 (fun cur fr q => by rcases q with q | q <;> cases q), fun z kz => ?_⟩
  have hs := q2.size
  have hz := kz.size
  have hB1 : B ≤ w1.heap.size := Nat.le_trans h.hB hs
  refine (radd_any ((h.rw.ff q2).kp kz) I (by omega) hm hmo (Nat.le_trans hB1 hz) (okSl B) ((hd.below (q2.below h.hB)).below (kz.mono hB1)) ?_ ?_ hf).mono ?_
  · intro v ls w w' hx k
    exact hx.fr k fun g hg q => by obtain ⟨q, _⟩ := q; omega
  · intro w w' k hx
    exact DArg.ff hx k
  rintro e w2 ⟨rfl, p1, p2⟩
  have hs2 := p2.size
  have hl := (addE_len I hf hmo.1 hm).1
  have hx := (addE_parts m ds).2.1
  exact ⟨rfl, ⟨((q1.kp kz).ffq p2).up (by omega), p1, addE_inw I hf hmo.1, by omega, Nat.le_refl _, by omega, by omega⟩, ((q2.below h.hB).trans (kz.mono hB1)).trans (p2.below (Nat.le_trans hB1 hz))⟩
set_option maxHeartbeats 16000000 in
theorem does_ev (h : Bt B C t r m w) (hl : 1 ≤ m.most ∧ m.most ≤ 200) (hn : m.next ≤ 8999) (hm : (m.L.length : Int) ≤ m.most) {kd n : Int} (hk0 : 0 ≤ kd) (hk1 : kd < 256) (hr : Rg n) {dv : Value} {ds : List Dl} (hd : DArg B dv ds w) (hf : Few 2000 ds) :
    Calls Try.prog 23 #[.pointer (some ⟨t, 0, none⟩), .pointer (some ⟨r, 0, none⟩), .agg #[.int .u8 kd, .int .i64 n, dv]] w fun e w' => e = .returned (.bool true) ∧ DneE B t r m w w' := by
  have HMM : Hid ((m.L.length : Int) ≤ m.most ∧ (1 ≤ m.most ∧ m.most ≤ 200) ∧ Few 2000 ds ∧ Inw m) := ⟨hm, hl, hf, h.inw⟩
  obtain ⟨W, hW⟩ : ∃ W, W = w.alloc (.cells #[.int .u8 kd, .int .i64 n, dv] 45) := ⟨_, rfl⟩
  have kW : Kp w W := by rw [hW]; exact kp_alloc _ _
  have lW : Lc 45 w.heap.size [.int .u8 kd, .int .i64 n, dv] W := by rw [hW]; exact Lc.new _ _ _
  have HB : Hid (Bt B C t r m W) := h.kp kW
  have HL : Hid (Lc 45 w.heap.size [.int .u8 kd, .int .i64 n, dv] W ∧ Kp w W ∧ DArg B dv ds W ∧ Few 2000 ds ∧ (1 ≤ m.most ∧ m.most ≤ 200) ∧ m.next ≤ 8999 ∧ (m.L.length : Int) ≤ m.most ∧ B ≤ w.heap.size) := ⟨lW, kW, hd.below (kW.mono h.hB), hf, hl, hn, hm, h.hB⟩
  have HW : Hid (W = w.alloc (.cells #[.int .u8 kd, .int .i64 n, dv] 45)) := hW
  have b0 := lW.at (j := 0) rfl
  have b1 := lW.at (j := 1) rfl
  have b2 := lW.at (j := 2) rfl
  obtain ⟨da, dn, dc, rfl⟩ : ∃ a n c, dv = .slice a n c := by obtain ⟨a, c, q, _⟩ := hd.form; exact ⟨a, _, c, q⟩
  clear h hl hn hm hd hf kW lW hW
  go_enter Try.func23, Try.ntmps23
  go_upto_region 1 with fail
  rw [← HW.out]
  clear HW
  rcases (by omega : kd % 9 = 3 ∨ kd % 9 = 4 ∨ kd % 9 = 5 ∨ kd % 9 = 6 ∨ kd % 9 = 7 ∨ kd % 9 = 8 ∨ kd % 9 < 3) with q | q | q | q | q | q | q
  · have d3 : (kd % 9 == 3) = true := by rw [q]; rfl
    have H1 : Hid _ := undo_both HB.out
    clear HB q
    go_wp2_with fail
    refine Calls.mono H1.out ?_
    rintro e w1 ⟨v1, err, rfl, he0, he1, hbx, hc⟩
    have HC : Hid _ := hc
    have lx := hbx _ _ HL.out.1
    have bb0 := lx.at (j := 0) rfl
    have bb1 := lx.at (j := 1) rfl
    have dE : (err == err) = true := beq_self_eq_true _
    clear H1 hc hbx lx
    go_wp2_with fail
    refine Calls.mono HC.out ?_
    rintro e w2 ⟨u1, rfl, al, m1, kps, bt, bl⟩
    have HS : Hid _ := same_alike al
    have H2 : Hid (Bt B C t r m1 w2 ∧ Kps m m1 ∧ Below B W w2) := ⟨bt, kps, bl⟩
    clear HC al bt kps bl
    go_wp2_with fail
    refine Calls.mono HS.out ?_
    rintro e w3 ⟨rfl, q3, rfl⟩
    clear HS
    go_wp2_with fail
    go_ret
    exact ⟨rfl, C, m1, H2.out.1.kp (kp_drewN _ _), H2.out.2.1.stpE HMM.out.1, ((HL.out.2.1.mono HL.out.2.2.2.2.2.2.2).trans H2.out.2.2).trans ((kp_drewN _ _).mono H2.out.1.hB)⟩
  · have d3 : (kd % 9 == 3) = false := by rw [q]; rfl
    have d4 : (kd % 9 == 4) = true := by rw [q]; rfl
    have H1 : Hid _ := redo_both HB.out
    clear HB q
    go_wp2_with fail
    refine Calls.mono H1.out ?_
    rintro e w1 ⟨v1, err, rfl, he0, he1, hbx, hc⟩
    have HC : Hid _ := hc
    have lx := hbx _ _ HL.out.1
    have bb0 := lx.at (j := 0) rfl
    have bb1 := lx.at (j := 1) rfl
    have dE : (err == err) = true := beq_self_eq_true _
    clear H1 hc hbx lx
    go_wp2_with fail
    refine Calls.mono HC.out ?_
    rintro e w2 ⟨u1, rfl, al, m1, kps, bt, bl⟩
    have HS : Hid _ := same_alike al
    have H2 : Hid (Bt B C t r m1 w2 ∧ Kps m m1 ∧ Below B W w2) := ⟨bt, kps, bl⟩
    clear HC al bt kps bl
    go_wp2_with fail
    refine Calls.mono HS.out ?_
    rintro e w3 ⟨rfl, q3, rfl⟩
    clear HS
    go_wp2_with fail
    go_ret
    exact ⟨rfl, C, m1, H2.out.1.kp (kp_drewN _ _), H2.out.2.1.stpE HMM.out.1, ((HL.out.2.1.mono HL.out.2.2.2.2.2.2.2).trans H2.out.2.2).trans ((kp_drewN _ _).mono H2.out.1.hB)⟩
  · have d3 : (kd % 9 == 3) = false := by rw [q]; rfl
    have d4 : (kd % 9 == 4) = false := by rw [q]; rfl
    have d5 : (kd % 9 == 5) = true := by rw [q]; rfl
    have H1 : Hid _ := go_both HB.out hr
    clear HB q
    go_wp2_with fail
    refine Calls.mono H1.out ?_
    rintro e w1 ⟨v1, err, rfl, he0, he1, hbx, hc⟩
    have HC : Hid _ := hc
    have lx := hbx _ _ HL.out.1
    have bb0 := lx.at (j := 0) rfl
    have bb1 := lx.at (j := 1) rfl
    have dE : (err == err) = true := beq_self_eq_true _
    clear H1 hc hbx lx
    go_wp2_with fail
    refine Calls.mono HC.out ?_
    rintro e w2 ⟨u1, rfl, al, m1, kps, bt, bl⟩
    have HS : Hid _ := same_alike al
    have H2 : Hid (Bt B C t r m1 w2 ∧ Kps m m1 ∧ Below B W w2) := ⟨bt, kps, bl⟩
    clear HC al bt kps bl
    go_wp2_with fail
    refine Calls.mono HS.out ?_
    rintro e w3 ⟨rfl, q3, rfl⟩
    clear HS
    go_wp2_with fail
    go_ret
    exact ⟨rfl, C, m1, H2.out.1.kp (kp_drewN _ _), H2.out.2.1.stpE HMM.out.1, ((HL.out.2.1.mono HL.out.2.2.2.2.2.2.2).trans H2.out.2.2).trans ((kp_drewN _ _).mono H2.out.1.hB)⟩
  · have d3 : (kd % 9 == 3) = false := by rw [q]; rfl
    have d4 : (kd % 9 == 4) = false := by rw [q]; rfl
    have d5 : (kd % 9 == 5) = false := by rw [q]; rfl
    have d6 : (kd % 9 == 6) = true := by rw [q]; rfl
    have H1 : Hid _ := earlier_both HB.out n
    clear HB q
    go_wp2_with fail
    refine Calls.mono H1.out ?_
    rintro e w1 ⟨v1, err, rfl, he0, he1, hbx, hc⟩
    have HC : Hid _ := hc
    have lx := hbx _ _ HL.out.1
    have bb0 := lx.at (j := 0) rfl
    have bb1 := lx.at (j := 1) rfl
    have dE : (err == err) = true := beq_self_eq_true _
    clear H1 hc hbx lx
    go_wp2_with fail
    refine Calls.mono HC.out ?_
    rintro e w2 ⟨u1, rfl, al, m1, kps, bt, bl⟩
    have HS : Hid _ := same_alike al
    have H2 : Hid (Bt B C t r m1 w2 ∧ Kps m m1 ∧ Below B W w2) := ⟨bt, kps, bl⟩
    clear HC al bt kps bl
    go_wp2_with fail
    refine Calls.mono HS.out ?_
    rintro e w3 ⟨rfl, q3, rfl⟩
    clear HS
    go_wp2_with fail
    go_ret
    exact ⟨rfl, C, m1, H2.out.1.kp (kp_drewN _ _), H2.out.2.1.stpE HMM.out.1, ((HL.out.2.1.mono HL.out.2.2.2.2.2.2.2).trans H2.out.2.2).trans ((kp_drewN _ _).mono H2.out.1.hB)⟩
  · have d3 : (kd % 9 == 3) = false := by rw [q]; rfl
    have d4 : (kd % 9 == 4) = false := by rw [q]; rfl
    have d5 : (kd % 9 == 5) = false := by rw [q]; rfl
    have d6 : (kd % 9 == 6) = false := by rw [q]; rfl
    have d7 : (kd % 9 == 7) = true := by rw [q]; rfl
    have H1 : Hid _ := later_both HB.out n
    clear HB q
    go_wp2_with fail
    refine Calls.mono H1.out ?_
    rintro e w1 ⟨v1, err, rfl, he0, he1, hbx, hc⟩
    have HC : Hid _ := hc
    have lx := hbx _ _ HL.out.1
    have bb0 := lx.at (j := 0) rfl
    have bb1 := lx.at (j := 1) rfl
    have dE : (err == err) = true := beq_self_eq_true _
    clear H1 hc hbx lx
    go_wp2_with fail
    refine Calls.mono HC.out ?_
    rintro e w2 ⟨u1, rfl, al, m1, kps, bt, bl⟩
    have HS : Hid _ := same_alike al
    have H2 : Hid (Bt B C t r m1 w2 ∧ Kps m m1 ∧ Below B W w2) := ⟨bt, kps, bl⟩
    clear HC al bt kps bl
    go_wp2_with fail
    refine Calls.mono HS.out ?_
    rintro e w3 ⟨rfl, q3, rfl⟩
    clear HS
    go_wp2_with fail
    go_ret
    exact ⟨rfl, C, m1, H2.out.1.kp (kp_drewN _ _), H2.out.2.1.stpE HMM.out.1, ((HL.out.2.1.mono HL.out.2.2.2.2.2.2.2).trans H2.out.2.2).trans ((kp_drewN _ _).mono H2.out.1.hB)⟩
  · have d3 : (kd % 9 == 3) = false := by rw [q]; rfl
    have d4 : (kd % 9 == 4) = false := by rw [q]; rfl
    have d5 : (kd % 9 == 5) = false := by rw [q]; rfl
    have d6 : (kd % 9 == 6) = false := by rw [q]; rfl
    have d7 : (kd % 9 == 7) = false := by rw [q]; rfl
    have d8 : (kd % 9 == 8) = true := by rw [q]; rfl
    have hx0 : 0 ≤ m.next := by have := HB.out.inw.inv.lt; omega
    have hx1 : m.next ≤ 8999 := HL.out.2.2.2.2.2.1
    have cN : W.cell? ⟨r, 3, none⟩ = some (.int .i64 m.next) := by obtain ⟨v, vs, h⟩ := HB.out.rw; exact h.box.at (j := 3) rfl
    clear q
    go_upto_region 22 with fail
    go_quiet (fail)
    have hkp := kp_drewN W nq
    generalize W.drewN nq = W1 at hkp ⊢
    generalize hx : max n 0 % (m.next + 1) = x
    have hxr : Rg x := by
      have h1 := Int.emod_nonneg (max n 0) (b := m.next + 1) (by omega)
      have h2 := Int.emod_lt_of_pos (max n 0) (b := m.next + 1) (by omega)
      exact rg_of ⟨by omega, by omega⟩
    have H1 : Hid _ := go_both (HB.out.kp hkp) hxr
    have HL1 : Hid (Lc 45 w.heap.size [.int .u8 kd, .int .i64 n, .slice da dn dc] W1 ∧ Kp w W1 ∧ B ≤ w.heap.size) := ⟨HL.out.1.kp hkp, kp_trans HL.out.2.1 hkp, HL.out.2.2.2.2.2.2.2⟩
    clear HB HL hx hxr hkp b0 b1 b2 cN
    go_wp2_with fail
    refine Calls.mono H1.out ?_
    rintro e w1 ⟨v1, err, rfl, he0, he1, hbx, hc⟩
    have HC : Hid _ := hc
    have lx := hbx _ _ HL1.out.1
    have bb0 := lx.at (j := 0) rfl
    have bb1 := lx.at (j := 1) rfl
    have dE : (err == err) = true := beq_self_eq_true _
    clear H1 hc hbx lx
    go_wp2_with fail
    refine Calls.mono HC.out ?_
    rintro e w2 ⟨u1, rfl, al, m1, kps, bt, bl⟩
    have HS : Hid _ := same_alike al
    have H2 : Hid (Bt B C t r m1 w2 ∧ Kps m m1 ∧ Below B W1 w2) := ⟨bt, kps, bl⟩
    clear HC al bt kps bl
    go_wp2_with fail
    refine Calls.mono HS.out ?_
    rintro e w3 ⟨rfl, q3, rfl⟩
    clear HS
    go_wp2_with fail
    go_ret
    exact ⟨rfl, C, m1, H2.out.1.kp (kp_drewN _ _), H2.out.2.1.stpE HMM.out.1, ((HL1.out.2.1.mono HL1.out.2.2).trans H2.out.2.2).trans ((kp_drewN _ _).mono H2.out.1.hB)⟩
  · have d3 : (kd % 9 == 3) = false := beq_eq_false_iff_ne.2 (by omega)
    have d4 : (kd % 9 == 4) = false := beq_eq_false_iff_ne.2 (by omega)
    have d5 : (kd % 9 == 5) = false := beq_eq_false_iff_ne.2 (by omega)
    have d6 : (kd % 9 == 6) = false := beq_eq_false_iff_ne.2 (by omega)
    have d7 : (kd % 9 == 7) = false := beq_eq_false_iff_ne.2 (by omega)
    have d8 : (kd % 9 == 8) = false := beq_eq_false_iff_ne.2 (by omega)
    have H1 : Hid _ := add_ev (HB.out.kp (kp_drew W)) HL.out.2.2.2.2.1 HL.out.2.2.2.2.2.1 HL.out.2.2.2.2.2.2.1 (HL.out.2.2.1.below ((kp_drew W).mono HB.out.hB)) HL.out.2.2.2.1
    have HK : Hid (Kp w W.drew ∧ B ≤ w.heap.size ∧ Lc 45 w.heap.size [.int .u8 kd, .int .i64 n, .slice da dn dc] W.drew ∧ Few 2000 ds ∧ Inv m) := ⟨kp_trans HL.out.2.1 (kp_drew W), HL.out.2.2.2.2.2.2.2, HL.out.1.kp (kp_drew W), HL.out.2.2.2.1, HB.out.inw.inv⟩
    have dN : (m.next == m.next) = true := beq_self_eq_true _
    clear q HB
    go_upto_region 5 with fail
    go_region_with (first | (go_at_call 12; refine Calls.mono H1.out ?_; rintro e w1 ⟨rfl, hbx, hc⟩; have bb2 := (hbx _ _ HK.out.2.2.1).at (j := 2) rfl; have HC : Hid _ := hc; clear hbx hc) | (go_at_call 46; refine Calls.mono (HC.out _ (Below.refl _ _)) ?_; rintro e w2 ⟨rfl, bt, bl⟩; have H2 : Hid _ := And.intro bt bl; clear bt bl HC) | (go_at_call 46; refine Calls.mono (HC.out _ (kp_drew _)) ?_; rintro e w2 ⟨rfl, bt, bl⟩; have H2 : Hid _ := And.intro bt bl; clear bt bl HC))
    all_goals
      go_wp2_with fail
      go_ret
      exact ⟨rfl, _, _, H2.out.1, stpE_add HMM.out.2.2.2 HMM.out.2.2.1 HMM.out.2.1.1 HMM.out.1, (HK.out.1.mono HK.out.2.1).trans H2.out.2⟩
end
end Go.Proofs.Ytehghbinjfkhgaa
/- heavy. -/
namespace Go.Proofs.Ytehghbinjfkhgaa
open Go.ChangeShapes Go.WideShapes Go.ChangeAt Go.RowKit
set_option linter.unusedVariables false
set_option linter.unusedSimpArgs false
set_option maxRecDepth 100000
/-- Calls that can be read. -/
def OpQ (v : Value) (l : List Op12) (w : World) : Prop :=
  ∃ a cap, v = .slice a l.length cap ∧ l.length ≤ cap ∧ cap ≤ maxLen ∧ ∀ (i : Nat) (o : Op12), l[i]? = some o → ∃ g off, a = some ⟨g, off, none⟩ ∧ w.cell? ⟨g, off + i * 3 + 2, none⟩ = some o.v ∧ ∃ D, DArg D o.v o.ds w
theorem OpL.q {B : Nat} {v : Value} {l : List Op12} {w : World} (h : OpL B v l w) : OpQ v l w := by
  obtain ⟨a, cap, rfl, h1, h2, h3⟩ := h
  refine ⟨a, cap, rfl, h1, h2, fun i o hi => ?_⟩
  obtain ⟨g, off, e, _, _, _, c, d⟩ := h3 i o hi
  exact ⟨g, off, e, c, B, d⟩
def hvO (l : List Op12) : Bool := decide (120 < l.length) || decide (2000 < wO l)
def wE (ds : List Dl) : Nat := (ds.map fun d => d.old.length + d.nw.length).sum
theorem wD_wE (ds : List Dl) : (ds.map wD).sum = ds.length + wE ds := by
  induction ds with
  | nil => rfl
  | cons d r ih => simp only [List.map_cons, List.sum_cons, List.length_cons, wE, wD] at *; omega
theorem wE_take {ds : List Dl} {k : Nat} {d : Dl} (h : ds[k]? = some d) : wE (ds.take (k + 1)) = wE (ds.take k) + (d.old.length + d.nw.length) := by
  rw [take_snoc ds h]; simp [wE]
theorem wE_app (a b : List Dl) : wE (a ++ b) = wE a + wE b := by unfold wE; rw [List.map_append, List.sum_append]
theorem wE_le (ds : List Dl) (k : Nat) : wE (ds.take k) ≤ wE ds := by
  have h := wE_app (ds.take k) (ds.drop k)
  rw [List.take_append_drop] at h
  omega
theorem wO_take {l : List Op12} {i : Nat} {o : Op12} (h : l[i]? = some o) : wO (l.take (i + 1)) = wO (l.take i) + (o.ds.length + wE o.ds) := by
  rw [take_snoc l h, ← wD_wE]; simp [wO]
theorem wO_app (a b : List Op12) : wO (a ++ b) = wO a + wO b := by unfold wO; rw [List.map_append, List.sum_append]
theorem wO_le (l : List Op12) (k : Nat) : wO (l.take k) ≤ wO l := by
  have h := wO_app (l.take k) (l.drop k)
  rw [List.take_append_drop] at h
  omega
set_option maxHeartbeats 8000000 in
theorem heavy_any {v : Value} {l : List Op12} {w : World} (h : OpQ v l w) (hb : wO l ≤ 1000000000) :
    Calls Try.prog 21 #[v] w fun e w' => e = .returned (.bool (hvO l)) ∧ ∃ k, w' = w.drewN k := by
  obtain ⟨a, cap, rfl, h1, h2, h3⟩ := h
  obtain ⟨N, hN⟩ : ∃ N, l.length = N := ⟨_, rfl⟩
  have HL : Hid (l.length = N) := hN
  have HH : Hid (∀ (i : Nat) (o : Op12), l[i]? = some o → ∃ g off, a = some ⟨g, off, none⟩ ∧ w.cell? ⟨g, off + i * 3 + 2, none⟩ = some o.v ∧ ∃ D, DArg D o.v o.ds w) := h3
  have HB : Hid (wO l ≤ 1000000000) := hb
  rw [hN] at h1 ⊢
  unfold maxLen at h2
  have hN9 : N ≤ 9223372036854775807 := by omega
  clear h3 hN hb h1 h2
  by_cases q : 120 < N
  · have d1 : decide ((N : Int) > 120) = true := decide_eq_true (by omega)
    have d2 : decide ((120 : Int) < (N : Int)) = true := decide_eq_true (by omega)
    have HE : Hid (hvO l = true) := by show hvO l = true; unfold hvO; rw [HL.out, decide_eq_true q]; rfl
    go_enter Try.func21, Try.ntmps21
    go_wp2_with fail
    go_ret
    exact ⟨by rw [HE.out]; rfl, 0, rfl⟩
  · have d1 : decide ((N : Int) > 120) = false := decide_eq_false (by omega)
    have d2 : decide ((120 : Int) < (N : Int)) = false := decide_eq_false (by omega)
    have HE : Hid (hvO l = decide (2000 < wO l)) := by show hvO l = _; unfold hvO; rw [HL.out, decide_eq_false q, Bool.false_or]
    go_enter Try.func21, Try.ntmps21
    go_wp2_with fail
    go_loopw [3, 4, 5] (fun v3 v4 _ wr => ∃ (i m k : Nat), i ≤ N ∧ v4 = .int .i64 i ∧ v3 = .int .i64 m ∧ m ≤ 1000000000 ∧ wr = w.drewN k ∧ Hid (wO (l.take i) = m)) (fun _ v4 _ _ => N - (intOf v4).toNat)
    case atStart => exact ⟨0, 0, 0, Nat.zero_le _, rfl, rfl, by omega, rfl, rfl⟩
    case round =>
      obtain ⟨i, m, k, hi, rfl, rfl, hm, rfl, HM⟩ := hrel
      by_cases p : i < N
      · have d3 : decide ((i : Int) < (N : Int)) = true := decide_eq_true (by omega)
        have d4 : decide (i < N) = true := decide_eq_true (by omega)
        obtain ⟨o, ho⟩ : ∃ o, l[i]? = some o := ⟨_, List.getElem?_eq_getElem (by rw [HL.out]; exact p)⟩
        obtain ⟨g, off, rfl, c0, D, hd⟩ := HH.out i o ho
        obtain ⟨b, cp, hv, _⟩ := hd.form
        have ht := wO_take ho
        have hle := wO_le l (i + 1)
        obtain ⟨K, hK⟩ : ∃ K, o.ds.length = K := ⟨_, rfl⟩
        have HK : Hid (o.ds.length = K ∧ wO (l.take (i + 1)) = m + (K + wE o.ds) ∧ m + (K + wE o.ds) ≤ 1000000000) := ⟨hK, by rw [ht, HM.out, hK], by have := HB.out; have := HM.out; omega⟩
        rw [hv, hK] at c0
        have HD : Hid (DArg D (.slice b K cp) o.ds w) := by rw [hv, hK] at hd; exact hd
        have hKm : m + K ≤ 1000000000 := by have := HK.out.2.2; omega
        clear ht hle hK hd hv HM ho
        go_wp2_with fail
        go_loopw [3, 5] (fun v3 v5 wr => ∃ (j s k : Nat), j ≤ K ∧ v5 = .int .i64 j ∧ v3 = .int .i64 s ∧ s ≤ 1000000000 ∧ wr = w.drewN k ∧ Hid (m + K + wE (o.ds.take j) = s)) (fun _ v5 _ => K - (intOf v5).toNat)
        case atStart => exact ⟨0, m + K, k, Nat.zero_le _, rfl, by go_num, by omega, rfl, rfl⟩
        case round =>
          obtain ⟨j, s, k2, hj, rfl, rfl, hs, rfl, HS⟩ := hrel
          by_cases p2 : j < K
          · have d5 : decide ((j : Int) < (K : Int)) = true := decide_eq_true (by omega)
            have d6 : decide (j < K) = true := decide_eq_true (by omega)
            obtain ⟨d, hd⟩ : ∃ d, o.ds[j]? = some d := ⟨_, List.getElem?_eq_getElem (by rw [HK.out.1]; exact p2)⟩
            obtain ⟨g2, o2, x, y, rfl, _, _, c1, c2, x1, x2⟩ := HD.out.at_ hd
            obtain ⟨xa, xc, rfl, _⟩ := x1.form
            obtain ⟨ya, yc, rfl, _⟩ := x2.form
            have ht := wE_take hd
            have hle := wE_le o.ds (j + 1)
            obtain ⟨X1, hX1⟩ : ∃ X, d.old.length = X := ⟨_, rfl⟩
            obtain ⟨Y1, hY1⟩ : ∃ X, d.nw.length = X := ⟨_, rfl⟩
            rw [hX1] at c1 ht
            rw [hY1] at c2 ht
            have HQ : Hid (m + K + wE (o.ds.take (j + 1)) = s + (X1 + Y1)) := by have := HS.out; show _ = _; omega
            have hsm : s + (X1 + Y1) ≤ 1000000000 := by have := HQ.out; have := HK.out.2.2; omega
            clear hd x1 x2 ht hle hX1 hY1 HS
            go_wp2_with fail
            go_quiet (fail)
            go_wp2_with fail
            go_roundw
            case rel => exact ⟨j + 1, s + (X1 + Y1), _, by omega, by go_num, by go_num, hsm, rfl, HQ.out⟩
            case measure => simp only [intOf]; omega
          · obtain rfl : j = K := by omega
            have d5 : decide ((j : Int) < (j : Int)) = false := by simp
            have HQ : Hid (wO (l.take (i + 1)) = s) := by
              have h1 := HS.out
              rw [List.take_of_length_le (by rw [HK.out.1]; exact Nat.le_refl _)] at h1
              show _ = _
              rw [HK.out.2.1]; omega
            clear HS
            go_wp2_with fail
            go_roundw
            case rel => exact ⟨i + 1, s, _, by omega, by go_num, rfl, hs, rfl, HQ.out⟩
            case measure => simp only [intOf]; omega
      · obtain rfl : i = N := by omega
        have d3 : decide ((i : Int) < (i : Int)) = false := by simp
        have hmm : m = wO l := by have h1 := HM.out; rw [List.take_of_length_le (by rw [HL.out]; exact Nat.le_refl _)] at h1; exact h1.symm
        have HX : Hid (hvO l = decide ((m : Int) > 2000)) := by
          show hvO l = _
          rw [HE.out, hmm]
          by_cases z : 2000 < wO l
          · rw [decide_eq_true z, decide_eq_true (by omega)]
          · rw [decide_eq_false z, decide_eq_false (by omega)]
        clear HM hmm
        go_wp2_with fail
        go_ret
        exact ⟨by rw [HX.out]; rfl, k, rfl⟩
end Go.Proofs.Ytehghbinjfkhgaa
/- The chapter's example. -/
namespace Go.Proofs.Ytehghbinjfkhgaa
open Go.ChangeShapes Go.WideShapes Go.ChangeAt Go.RowKit Go.Maps Go.MapKept
set_option linter.unusedVariables false
set_option linter.unusedSimpArgs false
set_option maxRecDepth 100000
theorem eqlT (ad : Addr) (w : World) : Sem.run Try.prog (binOp BinOp.eql 22 (.pointer (some ad)) (.pointer none)) w = .ok (.bool false) w := by kernel_rfl
theorem eqlT0 (w : World) : Sem.run Try.prog (binOp BinOp.eql 22 (.pointer none) (.pointer none)) w = .ok (.bool true) w := by kernel_rfl
theorem eqlS1 (w : World) : Sem.run Try.prog (binOp BinOp.eql 64 (.agg #[.int .i64 0, .int .i64 (-1)]) (.agg #[.int .i64 0, .int .i64 (-1)])) w = .ok (.bool true) w := by kernel_rfl
theorem eqlS2 (w : World) : Sem.run Try.prog (binOp BinOp.eql 64 (.agg #[.int .i64 2, .int .i64 0]) (.agg #[.int .i64 2, .int .i64 0])) w = .ok (.bool true) w := by kernel_rfl
theorem row_one {w : World} {b : Nat} {s : ByteArray} (h : Lc 9 b [.string s] w) : Row 0 (.slice (some ⟨b, 0, none⟩) 1 1) [s] w :=
  ⟨rfl, .inr ⟨b, 1, _, rfl, Nat.zero_le _, h, Nat.le_refl _, by simp [maxLen], rfl, rfl⟩⟩
theorem row_nil0 (B : Nat) (w : World) : Row B (.slice none 0 0) [] w := ⟨rfl, .inl ⟨rfl, rfl⟩⟩
theorem few_one (d : Dl) (h1 : d.old.length ≤ 2000) (h2 : d.nw.length ≤ 2000) : Few 2000 [d] := ⟨by simp, fun x hx => by simp only [List.mem_singleton] at hx; subst hx; exact ⟨by omega, by omega⟩⟩
/-- Add of one line that is put in. -/
theorem add_line {B C t : Nat} {m : Tr} {w : World} (h : Tw B C t m w) (I : Inv m) (hn : m.next ≤ 10000) (hm : (m.L.length : Int) + 1 ≤ m.most) (hB : B ≤ w.heap.size) (s : ByteArray) :
    Calls Try.prog 12 #[.pointer (some ⟨t, 0, none⟩), .slice (some ⟨w.heap.size + 1, 0, none⟩) 1 1] ((w.alloc (.cells #[.string s] 9)).alloc (.cells #[.int .i64 0, .slice none 0 0, .slice (some ⟨w.heap.size, 0, none⟩) 1 1] 35)) fun e w' => e = .returned (.int .i64 m.next) ∧ Tw B w'.heap.size t (addT m [⟨0, [], [s]⟩]) w' ∧ Ff TP B w w' := by
  have k : Kp w ((w.alloc (.cells #[.string s] 9)).alloc (.cells #[.int .i64 0, .slice none 0 0, .slice (some ⟨w.heap.size, 0, none⟩) 1 1] 35)) := kp_more (kp_alloc _ _) _
  have b1 := (Lc.new w [.string s] 9).kp (kp_alloc _ (.cells #[.int .i64 0, .slice none 0 0, .slice (some ⟨w.heap.size, 0, none⟩) 1 1] 35))
  have b2 := Lc.new (w.alloc (.cells #[.string s] 9)) [.int .i64 0, .slice none 0 0, .slice (some ⟨w.heap.size, 0, none⟩) 1 1] 35
  rw [alloc_size] at b2
  have hd : Dr (fun _ => True) (Row 0) (.slice (some ⟨w.heap.size + 1, 0, none⟩) 1 1) [⟨0, [], [s]⟩] _ := Dr.one (d := ⟨0, [], [s]⟩) (row_nil0 0 _) (row_one b1) b2
  refine (add_few (h.kp k) I.fam hn I.nodup I.nw hm (Nat.le_trans hB k.size) (okRow 0 0) hd (few_one _ (by simp) (by simp)) (by omega)).mono ?_
  rintro e w' ⟨rfl, q1, q2⟩
  exact ⟨rfl, q1, (Ff.kp k).trans q2⟩
def kA : ByteArray := ⟨#[97]⟩
def kB : ByteArray := ⟨#[98]⟩
def km1 : Tr := addT (first 9) [⟨0, [], [kA]⟩]
def km2 : Tr := addT { km1 with now := 0 } [⟨0, [], [kB]⟩]
theorem km1_inv : Inv km1 := (inv_first 9).add (few_one _ (by simp) (by simp))
theorem km1_now : look km1.L km1.now = some ⟨1, 0, -1, [⟨0, [], [kA]⟩]⟩ := rfl
theorem km1_up : Inv { km1 with now := 0 } := km1_inv.up km1_now (by decide)
theorem km2_inv : Inv km2 := km1_up.add (few_one _ (by simp) (by simp))
theorem km2_L : km2.L = [⟨0, -1, 2, []⟩, ⟨1, 0, -1, [⟨0, [], [kA]⟩]⟩, ⟨2, 0, -1, [⟨0, [], [kB]⟩]⟩] := rfl
theorem km2_meet : Meet km2.L km2.now 1 0 [2] [1] := by
  have h2 : look km2.L 2 = some ⟨2, 0, -1, [⟨0, [], [kB]⟩]⟩ := rfl
  have h1 : look km2.L 1 = some ⟨1, 0, -1, [⟨0, [], [kA]⟩]⟩ := rfl
  refine ⟨.cons h2 (by decide) (.nil _), .cons h1 (by decide) (.nil _), fun x hx l hl => ?_⟩
  simp only [List.mem_singleton] at hx
  subst hx
  have := (km2_inv.fam.up_le hl).1
  omega
set_option maxHeartbeats 16000000 in
theorem known_any (w : World) : Calls Try.prog 16 #[] w fun e w' => e = .returned (.bool true) ∧ Kp w w' := by
  have HN : Hid _ := new_any (most := 9) (by decide) (by decide) w
  have he := eqlT
  have he0 := eqlT0
  have hs1 := eqlS1
  have hs2 := eqlS2
  go_enter Try.func16, Try.ntmps16
  go_wp2_with fail
  refine Calls.mono HN.out ?_
  rintro e w1 ⟨t, rfl, t1, k1⟩
  have HA : Hid _ := add_line t1 (inv_first 9) (by decide) (by decide) k1.size kA
  have H1 : Hid (Kp w w1) := k1
  clear HN t1 k1
  go_wp2_with fail
  refine Calls.mono HA.out ?_
  rintro e w2 ⟨rfl, t2, f2⟩
  have H2 : Hid (Kp w w2) := H1.out.trans (f2.below H1.out.size)
  have HU : Hid _ := undo_any t2 (by constructor <;> decide) km1_now (by decide) (few_one ⟨0, [], [kA]⟩ (by simp) (by simp)) (by omega)
  clear HA H1 t2 f2
  go_wp2_with fail
  refine Calls.mono HU.out ?_
  rintro e w3 ⟨v3, rfl, d3, t3, f3⟩
  have H3 : Hid (Kp w w3) := H2.out.trans (f3.below H2.out.size)
  have HA : Hid _ := add_line (m := { km1 with now := 0 }) t3 km1_up (by decide) (by decide) H3.out.size kB
  clear HU H2 d3 t3 f3
  go_wp2_with fail
  refine Calls.mono HA.out ?_
  rintro e w4 ⟨rfl, t4, f4⟩
  have H4 : Hid (Kp w w4 ∧ Tw w.heap.size w4.heap.size t km2 w4) := ⟨H3.out.trans (f4.below H3.out.size), t4⟩
  have HS : Hid _ := states_any (m := km2) t4 km2_inv.fam (by decide) (by decide) km2_inv.sq
  clear HA H3 t4 f4
  go_wp2_with fail
  refine Calls.mono HS.out ?_
  rintro e w5 ⟨v5, rfl, s5, k5⟩
  obtain ⟨g5, c5, rfl⟩ : ∃ g c, v5 = .slice (some ⟨g, 0, none⟩) 3 c := by
    rcases s5.2 with ⟨_, e0⟩ | ⟨g, c, cur, e, _⟩
    · cases e0
    · exact ⟨g, c, e⟩
  have HG : Hid _ := go_any (m := km2) (seq := 1) (H4.out.2.kp k5) k5.size km2_inv.fam (by decide) km2_inv.nw (by decide)
  have H5 : Hid (Kp w w5 ∧ Sr w4.heap.size (.slice (some ⟨g5, 0, none⟩) 3 c5) km2.L w5) := ⟨kp_trans H4.out.1 k5, s5⟩
  clear HS H4 s5 k5
  go_wp2_with fail
  refine Calls.mono HG.out ?_
  rintro e w6 ⟨v6, rfl, top, l1, l2, hm, d6, t6, f6⟩
  obtain ⟨rfl, rfl, rfl⟩ := km2_inv.fam.meet_one hm km2_meet
  have hds : upsD km2.L [2] ++ dnD km2.L [1] = [⟨0, [kB], []⟩, ⟨0, [], [kA]⟩] := rfl
  rw [hds] at d6
  have s6 : Sr w4.heap.size (.slice (some ⟨g5, 0, none⟩) 3 c5) km2.L w6 := row_ff H5.out.2 f6 fun _ _ q => by rcases q with q | q <;> exact absurd q (by decide)
  have y0 : w6.cell? ⟨g5, 0, none⟩ = some (.int .i64 0) := (s6.cellAt 0 (by decide)).trans rfl
  have y1 : w6.cell? ⟨g5, 1, none⟩ = some (.int .i64 (-1)) := (s6.cellAt 1 (by decide)).trans rfl
  have y4 : w6.cell? ⟨g5, 4, none⟩ = some (.int .i64 2) := (s6.cellAt 4 (by decide)).trans rfl
  have y5 : w6.cell? ⟨g5, 5, none⟩ = some (.int .i64 0) := (s6.cellAt 5 (by decide)).trans rfl
  obtain ⟨a6, c6, rfl, _⟩ := d6.form
  obtain ⟨g6, o6, x0, x1, e6, _, z0, z1, z2, r0, r1⟩ := d6.dr.at_ (i := 0) rfl
  obtain ⟨g7, o7, x2, x3, e7, _, z3, z4, z5, r2, r3⟩ := d6.dr.at_ (i := 1) rfl
  rw [e6] at e7
  cases e7
  subst e6
  obtain ⟨a7, c7, rfl, _⟩ := r0.form
  obtain ⟨a8, c8, rfl, _⟩ := r3.form
  obtain ⟨h7, p7, rfl, _, m7⟩ := (Sl.of_row r0).at_ (i := 0) rfl
  obtain ⟨h8, p8, rfl, _, m8⟩ := (Sl.of_row r3).at_ (i := 0) rfl
  have H6 : Hid (Kp w w6) := H5.out.1.trans (f6.below H5.out.1.size)
  have HX : Hid _ := new_none (most := 0) (by decide) w6
  clear HG H5 hm d6 t6 f6 hds s6 r0 r1 r2 r3
  simp only [Nat.zero_mul, Nat.add_zero, Nat.one_mul] at z0 z1 z2 z3 z4 z5 m7 m8
  simp only [List.length_cons, List.length_nil, Nat.zero_add] at z1 z5
  have m7' : w6.cell? ⟨h7, p7, none⟩ = some (.string ⟨#[98]⟩) := m7
  have m8' : w6.cell? ⟨h8, p8, none⟩ = some (.string ⟨#[97]⟩) := m8
  clear m7 m8
  go_wp2_with fail
  refine Calls.mono HX.out ?_
  rintro e w7 ⟨rfl, rfl⟩
  clear HX
  go_wp2_with fail
  go_ret
  exact ⟨rfl, H6.out⟩
end Go.Proofs.Ytehghbinjfkhgaa
/- UndoBack, walked. -/
namespace Go.Proofs.Ytehghbinjfkhgaa
open Go.ChangeShapes Go.WideShapes Go.ChangeAt Go.RowKit Go.Maps Go.MapKept
set_option linter.unusedVariables false
set_option linter.unusedSimpArgs false
set_option maxRecDepth 100000
theorem Tw.low {B B' C t : Nat} {m : Tr} {w : World} (h : Tw B C t m w) (hB : B' ≤ B) : Tw B' C t m w := by
  obtain ⟨b, q, h⟩ := h
  exact ⟨b, q, Nat.le_trans hB h.lt, Nat.le_trans hB h.lb, h.box, h.map, fun x s hx => by obtain ⟨h1, h2⟩ := h.st x s hx; exact ⟨Nat.le_trans hB h1, h2⟩, h.inj⟩
theorem Rw.low {B B' C r : Nat} {m : Tr} {w : World} (h : Rw B C r m w) (hB : B' ≤ B) : Rw B' C r m w := by
  obtain ⟨v, vs, h⟩ := h
  exact ⟨v, vs, Nat.le_trans hB h.lr, h.box, row_lift h.row fun j hj => Nat.le_trans hB (h.row.lt j hj).1, h.bys⟩
theorem sum_mem {α : Type} (f : α → Nat) {x : α} : ∀ {l : List α}, x ∈ l → f x ≤ (l.map f).sum
  | y :: l, h => by
    rcases List.mem_cons.1 h with rfl | h
    · simp
    · have := sum_mem f h; simp; omega
theorem len_wD (ds : List Dl) : ds.length ≤ (ds.map wD).sum := by
  induction ds with
  | nil => simp
  | cons d l ih => simp only [List.length_cons, List.map_cons, List.sum_cons, wD]; omega
theorem few_wD {ds : List Dl} (h : (ds.map wD).sum ≤ 2000) : Few 2000 ds := ⟨by have := len_wD ds; omega, fun d hd => by
  have := sum_mem wD hd
  unfold wD at this h
  exact ⟨by omega, by omega⟩⟩
theorem few_wO {l : List Op12} (h : hvO l = false) {o : Op12} (ho : o ∈ l) : Few 2000 o.ds := by
  unfold hvO at h
  simp only [Bool.or_eq_false_iff, decide_eq_false_iff_not] at h
  have := sum_mem (fun o : Op12 => (o.ds.map wD).sum) ho
  unfold wO at h
  exact few_wD (by omega)
theorem len_hv {l : List Op12} (h : hvO l = false) : l.length ≤ 120 := by
  unfold hvO at h
  simp only [Bool.or_eq_false_iff, decide_eq_false_iff_not] at h
  omega
/-- Where the loop stands. -/
def Lp (B t r i : Nat) (W w : World) : Prop := ∃ C m, Bt B C t r m w ∧ m.most = 200 ∧ m.L.length ≤ 1 + i ∧ m.next ≤ 1 + i ∧ Rt0 m.L ∧ Below B W w
theorem lp_first {W w w1 w2 : World} {t r : Nat} (k : Kp W w) (h1 : Tw w.heap.size w.heap.size t (first 200) w1) (k1 : Kp w w1) (h2 : Rw w1.heap.size w1.heap.size r (first 200) w2) (k2 : Kp w1 w2) : Lp W.heap.size t r 0 W w2 := by
  have s0 := k.size
  have s1 := k1.size
  have s2 := k2.size
  refine ⟨w1.heap.size, first 200, ⟨((h1.kp k2).low s0).up s1, h2.low (by omega), inw_first 200, by omega, s2, by decide, by decide⟩, rfl, by decide, by decide, ⟨_, rfl, rfl⟩, kp_trans (kp_trans k k1) k2⟩
theorem lp_step {W w w' : World} {B t r i : Nat} {m : Tr} (h1 : m.most = 200) (h2 : m.L.length ≤ 1 + i) (h3 : m.next ≤ 1 + i) (h4 : Rt0 m.L) (hb : Below B W w) (h : Dne B t r m w w') : Lp B t r (i + 1) W w' := by
  obtain ⟨C, m', q1, q2, q3⟩ := h
  exact ⟨C, m', q1, q2.mo.trans h1, by have := q2.len; omega, by have := q2.nx; omega, q2.rt h4, hb.trans q3⟩
end Go.Proofs.Ytehghbinjfkhgaa
/- The document's States. -/
namespace Go.Proofs.Ytehghbinjfkhgaa
open Go.ChangeShapes Go.WideShapes Go.ChangeAt Go.RowKit Go.Maps Go.MapKept
set_option linter.unusedVariables false
set_option linter.unusedSimpArgs false
set_option maxRecDepth 100000
theorem step_st {B n : Nat} {cs : List Value} {x1 x2 : Int} {v : Value} {w : World} {ops : Array Oper} {o : Oper} {ac : Act} {K : Act → World → Prop} {Q : Exit → Act → World → Prop} {E : Prop} (hgd : o.guard = none) (s x : Operand) (ho : o.op = .call { callee := .builtin .append, args := #[s, x], argTypes := #[51, 51] })
    (hs : ac.eval s = v) (r1 : w.ownsRow B 64 2 v n cs) {b : Nat} (hx : ac.eval x = .slice (some ⟨b, 0, none⟩) 1 1) (hb : Lc 64 b [.int .i64 x1, .int .i64 x2] w) (hl : n ≤ 1000000) (hB : B ≤ w.heap.size)
    (k : ∀ a' c' w', w'.ownsRow B 64 2 (.slice a' (n + 1) c') (n + 1) (cs ++ [.int .i64 x1, .int .i64 x2]) → w.grownBy w' v.ownBlock → Below B w w' → K (ac.put o.dst (.slice a' (n + 1) c')) w') : if Region.wanted o (yielded ops ac.tmps) = true then Oper.wp Try.prog o ac w K Q else E := by
  obtain ⟨i9, hi9, z0, z1, z2⟩ := info_parts infoAS
  have hw : Region.wanted o (yielded ops ac.tmps) = true := by simp [Region.wanted, hgd]
  rw [if_pos hw]
  refine wp_append_own w s x 51 ho B 64 i9 _ 2 16 Try.underlying51 hi9 z0 z1 z2 rfl (by decide) v n cs hs r1 ⟨b, 0, none⟩ 1 1 [.int .i64 x1, .int .i64 x2] hx rfl (fun j u hj => ?_) (by simp [Value.oneCell']) (by unfold maxLen; omega) (by omega) hB ?_
  · rw [addr_add]; exact hb.at hj
  intro v' w' q1 q2 _
  obtain ⟨a', c', rfl, q3, q4⟩ := owns_form q1
  exact k a' c' w' q1 q2 (below_grown r1 hB q2)
section
variable {B C r : Nat} {m : Tr} {w w1 : World}
set_option maxHeartbeats 8000000 in
theorem rstates_any (h : Rw B C r m w) (hl : m.L.length ≤ 250) :
    Calls Try.prog 26 #[.pointer (some ⟨r, 0, none⟩)] w fun e w' => ∃ v, e = .returned v ∧ Sr w.heap.size v m.L w' ∧ Kp w w' := by
  obtain ⟨v, vs, h⟩ := h
  have b1 := h.box.at (j := 1) rfl
  obtain ⟨a, cap, rfl, hc1, hc2⟩ : ∃ a c, v = .slice a m.L.length c ∧ m.L.length ≤ c ∧ c ≤ maxLen := by obtain ⟨a, c, e, q1, q2⟩ := owns_form h.row; exact ⟨a, c, e, q1, q2⟩
  have hr0 : r < w.heap.size := World.block_lt_of_cell? _ _ b1
  have HH : Hid (Rb B C r (.slice a m.L.length cap) vs m w) := h
  obtain ⟨N, hN⟩ : ∃ N, m.L.length = N := ⟨_, rfl⟩
  have HL : Hid (m.L.length = N) := hN
  unfold maxLen at hc2
  rw [hN] at hl b1 hc1
  have HB1 : Hid (w.cell? ⟨r, 1, none⟩ = some (.slice a N cap)) := b1
  clear h hN b1
  go_enter Try.func26, Try.ntmps26
  go_wp2_with fail
  go_loopw [3, 4] (fun v3 v4 wr => ∃ (i : Nat) (a' : Option Addr) (c' : Nat), i ≤ N ∧ v4 = .int .i64 i ∧ v3 = .slice a' i c' ∧ Hid (wr.ownsRow w.heap.size 64 2 (.slice a' i c') i (flatS (m.L.take i)) ∧ Kp w wr)) (fun _ v4 _ => N - (intOf v4).toNat)
  case atStart => exact ⟨0, none, 0, Nat.zero_le _, by go_num, rfl, ⟨rfl, .inl ⟨rfl, rfl⟩⟩, Below.refl _ _⟩
  case round =>
    obtain ⟨i, a', c', hi, rfl, rfl, HI⟩ := hrel
    have y1 := kp_cell HI.out.2 HB1.out
    by_cases q : i < N
    · have d1 : decide ((i : Int) < (N : Int)) = true := decide_eq_true (by omega)
      have d2 : decide (i < N) = true := decide_eq_true (by omega)
      obtain ⟨s, hsi⟩ : ∃ s, m.L[i]? = some s := ⟨_, List.getElem?_eq_getElem (by rw [HL.out]; exact q)⟩
      obtain ⟨g, c, u, e, _, _, _, hu, q0, q1, _, _, _⟩ := HH.out.cell hsi
      cases e
      have hg0 : g < w.heap.size := World.block_lt_of_cell? _ _ q0
      have y2 := kp_cell HI.out.2 q0
      have y3 := kp_cell HI.out.2 q1
      have HS : Hid (m.L.take (i + 1) = m.L.take i ++ [s]) := take_snoc m.L hsi
      obtain ⟨sq, hsq⟩ : ∃ x, s.seq = x := ⟨_, rfl⟩
      obtain ⟨sf, hsf⟩ : ∃ x, s.fr = x := ⟨_, rfl⟩
      have HQ : Hid (flatS [s] = [.int .i64 sq, .int .i64 sf]) := by show flatS [s] = _; rw [← hsq, ← hsf]; rfl
      rw [hsq] at y2
      rw [hsf] at y3
      clear hsi hu q0 q1 hsq hsf
      go_upto_region 5 with fail
      refine wp_region_noPanic ?_
      refine wp_region_held_drew (S := fun z => z.cell? ⟨r, 1, none⟩ = some (.slice (some ⟨g, 0, none⟩) N cap) ∧ z.cell? ⟨g, i * 4, none⟩ = some (.int .i64 sq) ∧ z.cell? ⟨g, i * 4 + 1, none⟩ = some (.int .i64 sf)) (by kernel_rfl) (⟨y1, y2, y3⟩) (fun hHeld => ?_)
      refine takeAt 0 (some 14) ?_ rfl rfl (by kernel_rfl) (by kernel_rfl) (by kernel_rfl) (fun _ _ _ h => h) (Or.inl ⟨by rfl, ?_⟩) hHeld ?_
      rotate_left
      · intro w hSw
        go_simp <;> with_reducible rfl
      try simp only [Act.put, List.setIfInBounds_toArray, List.set_cons_zero, List.set_cons_succ]
      refine takeAt 1 (some 15) ?_ rfl rfl (by kernel_rfl) (by kernel_rfl) (by kernel_rfl) (fun _ _ _ h => h) (Or.inl ⟨by rfl, ?_⟩) hHeld ?_
      rotate_left
      · intro w hSw
        go_simp <;> with_reducible rfl
      try simp only [Act.put, List.setIfInBounds_toArray, List.set_cons_zero, List.set_cons_succ]
      refine takeAt 2 (some 16) ?_ rfl rfl (by kernel_rfl) (by kernel_rfl) (by kernel_rfl) (fun _ _ _ h => h) (Or.inl ⟨by rfl, ?_⟩) hHeld ?_
      rotate_left
      · intro w hSw
        go_simp <;> with_reducible rfl
      try simp only [Act.put, List.setIfInBounds_toArray, List.set_cons_zero, List.set_cons_succ]
      refine takeAt 3 (some 17) ?_ rfl rfl (by kernel_rfl) (by kernel_rfl) (by kernel_rfl) (fun _ _ _ h => h) (Or.inl ⟨by rfl, ?_⟩) hHeld ?_
      rotate_left
      · intro w hSw
        go_simp <;> with_reducible rfl
      try simp only [Act.put, List.setIfInBounds_toArray, List.set_cons_zero, List.set_cons_succ]
      refine takeAt 4 (some 18) ?_ rfl rfl (by kernel_rfl) (by kernel_rfl) (by kernel_rfl) (fun _ _ _ h => h) (Or.inl ⟨by rfl, ?_⟩) hHeld ?_
      rotate_left
      · intro w hSw
        go_simp <;> with_reducible rfl
      try simp only [Act.put, List.setIfInBounds_toArray, List.set_cons_zero, List.set_cons_succ]
      refine takeAt 5 (some 19) ?_ rfl rfl (by kernel_rfl) (by kernel_rfl) (by kernel_rfl) (fun _ _ _ h => h) (Or.inl ⟨by rfl, ?_⟩) hHeld ?_
      rotate_left
      · intro w hSw
        go_simp <;> with_reducible rfl
      try simp only [Act.put, List.setIfInBounds_toArray, List.set_cons_zero, List.set_cons_succ]
      refine takeAt 6 (some 20) ?_ rfl rfl (by kernel_rfl) (by kernel_rfl) (by kernel_rfl) (fun _ _ _ h => h) (Or.inl ⟨by rfl, ?_⟩) hHeld ?_
      rotate_left
      · intro w hSw
        go_simp <;> with_reducible rfl
      try simp only [Act.put, List.setIfInBounds_toArray, List.set_cons_zero, List.set_cons_succ]
      refine takeAt 7 (some 21) ?_ rfl rfl (by kernel_rfl) (by kernel_rfl) (by kernel_rfl) (fun _ _ _ h => h) (Or.inl ⟨by rfl, ?_⟩) hHeld ?_
      rotate_left
      · intro w hSw
        go_simp <;> with_reducible rfl
      try simp only [Act.put, List.setIfInBounds_toArray, List.set_cons_zero, List.set_cons_succ]
      refine takeAt 8 (some 22) ?_ rfl rfl (by kernel_rfl) (by kernel_rfl) (by kernel_rfl) (fun _ _ _ h => h) (Or.inl ⟨by rfl, ?_⟩) hHeld ?_
      rotate_left
      · intro w hSw
        go_simp <;> with_reducible rfl
      try simp only [Act.put, List.setIfInBounds_toArray, List.set_cons_zero, List.set_cons_succ]
      refine takeAt 9 (some 23) ?_ rfl rfl (by kernel_rfl) (by kernel_rfl) (by kernel_rfl) (fun _ _ _ h => h) (Or.inl ⟨by rfl, ?_⟩) hHeld ?_
      rotate_left
      · intro w hSw
        go_simp <;> with_reducible rfl
      try simp only [Act.put, List.setIfInBounds_toArray, List.set_cons_zero, List.set_cons_succ]
      refine takeAt 10 (some 24) ?_ rfl rfl (by kernel_rfl) (by kernel_rfl) (by kernel_rfl) (fun _ _ _ h => h) (Or.inl ⟨by rfl, ?_⟩) hHeld ?_
      rotate_left
      · intro w hSw
        go_simp <;> with_reducible rfl
      try simp only [Act.put, List.setIfInBounds_toArray, List.set_cons_zero, List.set_cons_succ]
      refine takeAt 11 (some 25) ?_ rfl rfl (by kernel_rfl) (by kernel_rfl) (by kernel_rfl) (fun _ _ _ h => h) (Or.inl ⟨by rfl, ?_⟩) hHeld ?_
      rotate_left
      · intro w hSw
        go_simp <;> with_reducible rfl
      try simp only [Act.put, List.setIfInBounds_toArray, List.set_cons_zero, List.set_cons_succ]
      refine takeAt 12 (some 26) ?_ rfl rfl (by kernel_rfl) (by kernel_rfl) (by kernel_rfl) (fun _ _ _ h => h) (Or.inl ⟨by rfl, ?_⟩) hHeld ?_
      rotate_left
      · intro w hSw
        go_simp <;> with_reducible rfl
      try simp only [Act.put, List.setIfInBounds_toArray, List.set_cons_zero, List.set_cons_succ]
      refine takeAt 13 (some 27) ?_ rfl rfl (by kernel_rfl) (by kernel_rfl) (by kernel_rfl) (fun _ _ _ h => h) (Or.inl ⟨by rfl, ?_⟩) hHeld ?_
      rotate_left
      · intro w hSw
        go_simp <;> with_reducible rfl
      try simp only [Act.put, List.setIfInBounds_toArray, List.set_cons_zero, List.set_cons_succ]
      refine takeAt 14 (some 28) ?_ rfl rfl (by kernel_rfl) (by kernel_rfl) (by kernel_rfl) (fun _ _ _ h => h) (Or.inl ⟨by rfl, ?_⟩) hHeld ?_
      rotate_left
      · intro w hSw
        go_simp <;> with_reducible rfl
      try simp only [Act.put, List.setIfInBounds_toArray, List.set_cons_zero, List.set_cons_succ]
      refine takeAt 15 (some 29) ?_ rfl rfl (by kernel_rfl) (by kernel_rfl) (by kernel_rfl) (fun _ _ _ h => h) (Or.inl ⟨by rfl, ?_⟩) hHeld ?_
      rotate_left
      · intro w hSw
        go_simp <;> with_reducible rfl
      try simp only [Act.put, List.setIfInBounds_toArray, List.set_cons_zero, List.set_cons_succ]
      refine takeAt 16 (some 30) ?_ rfl rfl (by kernel_rfl) (by kernel_rfl) (by kernel_rfl) (fun _ _ _ h => h) (Or.inl ⟨by rfl, ?_⟩) hHeld ?_
      rotate_left
      · intro w hSw
        go_simp <;> with_reducible rfl
      try simp only [Act.put, List.setIfInBounds_toArray, List.set_cons_zero, List.set_cons_succ]
      refine takeAt 17 (some 31) ?_ rfl rfl (by kernel_rfl) (by kernel_rfl) (by kernel_rfl) (fun _ _ _ h => h) (Or.inl ⟨by rfl, ?_⟩) hHeld ?_
      rotate_left
      · intro w hSw
        go_simp <;> with_reducible rfl
      try simp only [Act.put, List.setIfInBounds_toArray, List.set_cons_zero, List.set_cons_succ]
      refine wpAnyH_ready (rs := [18]) (by kernel_rfl) (by simp) ?_
      refine AllReadyH.cons rfl (fun K hK => ?_) AllReadyH.nil
      go_simp
      refine hK.out _ _ (⟨kp_cell (kp_alloc _ _) hHeld.1, kp_cell (kp_alloc _ _) hHeld.2.1, kp_cell (kp_alloc _ _) hHeld.2.2⟩) (fun hHeld => ?_)
      clear hK K
      try simp only [Act.put, List.setIfInBounds_toArray, List.set_cons_zero, List.set_cons_succ]
      refine wpAnyH_ready (rs := [19]) (by kernel_rfl) (by simp) ?_
      refine AllReadyH.cons rfl (fun K1 hK => ?_) AllReadyH.nil
      have kA : Kp wr (wr.drew.alloc (.cells #[.int .i64 sq, .int .i64 sf] 64)) := kp_trans (kp_drew _) (kp_alloc _ _)
      have HB : Hid (w.heap.size ≤ (wr.drew.alloc (.cells #[.int .i64 sq, .int .i64 sf] 64)).heap.size) := Nat.le_trans HI.out.2.size kA.size
      refine step_st (n := i) rfl (.tmp 14) (.tmp 32) rfl rfl (row_kp HI.out.1 kA) rfl (Lc.new _ _ _) (by omega) HB.out ?_
      intro a3 e3 w5 q1 q2 q3
      have HQ2 : Hid (w5.ownsRow w.heap.size 64 2 (.slice a3 (i + 1) e3) (i + 1) (flatS (m.L.take (i + 1))) ∧ Kp w w5) := ⟨by rw [HS.out, flatS_app, HQ.out]; exact q1, (kp_trans HI.out.2 kA).trans q3⟩
      have hS5 : w5.cell? ⟨r, 1, none⟩ = some (.slice (some ⟨g, 0, none⟩) N cap) ∧ w5.cell? ⟨g, i * 4, none⟩ = some (.int .i64 sq) ∧ w5.cell? ⟨g, i * 4 + 1, none⟩ = some (.int .i64 sf) := by
        have hne : ∀ x, x < w.heap.size → some x ≠ (Value.slice a' i c').ownBlock := fun x hx e => by have := (HI.out.1.lt _ e.symm).1; omega
        have hlt := HB.out
        refine ⟨?_, ?_, ?_⟩
        · rw [q2.cell_far _ (Nat.lt_of_lt_of_le hr0 hlt) (hne _ hr0)]; exact hHeld.1
        · rw [q2.cell_far _ (Nat.lt_of_lt_of_le hg0 hlt) (hne _ hg0)]; exact hHeld.2.1
        · rw [q2.cell_far _ (Nat.lt_of_lt_of_le hg0 hlt) (hne _ hg0)]; exact hHeld.2.2
      clear q1 q2 q3
      change K1 (Act.put _ (some 33) (.slice a3 (i + 1) e3)) w5
      refine hK.out _ _ hS5 (fun hHeld => ?_)
      clear hK K1
      try simp only [Act.put, List.setIfInBounds_toArray, List.set_cons_zero, List.set_cons_succ]
      refine wpAnyH_ready (rs := [20]) (by kernel_rfl) (by simp) ?_
      refine AllReadyH.cons rfl (fun K hK => ?_) AllReadyH.nil
      go_simp
      refine hK.out _ _ (hHeld) (fun hHeld => ?_)
      clear hK K
      try simp only [Act.put, List.setIfInBounds_toArray, List.set_cons_zero, List.set_cons_succ]
      refine wpAnyH_done (by kernel_rfl) ?_ _
      refine NoPanic.normal ?_
      go_wp2_with fail
      go_roundw
      case rel => exact ⟨i + 1, a3, e3, by omega, by go_num, rfl, HQ2.out⟩
      case measure => simp only [intOf]; omega
    · obtain rfl : i = N := by omega
      have d1 : decide ((i : Int) < (i : Int)) = false := by simp
      have HX : Hid (Sr w.heap.size (.slice a' i c') m.L wr ∧ Kp w wr) := by
        have h1 := HI.out.1
        rw [List.take_of_length_le (by rw [HL.out]; exact Nat.le_refl _)] at h1
        exact ⟨by unfold Sr; rw [HL.out]; exact h1, HI.out.2⟩
      clear HI
      go_wp2_with fail
      go_ret
      exact ⟨_, rfl, HX.out⟩
end
end Go.Proofs.Ytehghbinjfkhgaa
/- States alike. -/
namespace Go.Proofs.Ytehghbinjfkhgaa
open Go.ChangeShapes Go.WideShapes Go.ChangeAt Go.RowKit Go.Maps Go.MapKept
set_option linter.unusedVariables false
set_option linter.unusedSimpArgs false
set_option maxRecDepth 100000
theorem eqSS (a b : Int) (w : World) : Sem.run Try.prog (Op.equal 64 (.agg #[.int .i64 a, .int .i64 b]) (.agg #[.int .i64 a, .int .i64 b])) w = .ok true w := by
  have u3 := Try.underlying3
  have a3 := Try.isAgg3
  have z3 := Try.sizeOf3
  have hS : Try.prog.underlying 64 = some (.struct (Try.prog.fieldsOf 64)) := by kernel_rfl
  have hp : Try.prog.stoodInHeld 64 = false := by kernel_rfl
  show Sem.run Try.prog (Op.equalIn (9999 + 1) 64 _ _) w = _
  rw [run_equalIn_agg w 9999 64 _ _ hS hp]
  simp only [Program.fieldsOf, Try.underlying64]
  go_simp
theorem neqSS (x y : Int) (w : World) : Sem.run Try.prog (binOp BinOp.neq 64 (.agg #[.int .i64 x, .int .i64 y]) (.agg #[.int .i64 x, .int .i64 y])) w = .ok (.bool false) w := by
  simp [binOp, eqSS]
theorem Sr.cell {B g N c : Nat} {l : List St} {w : World} (h : Sr B (.slice (some ⟨g, 0, none⟩) N c) l w) (hN : l.length = N) {i : Nat} {s : St} (hi : l[i]? = some s) : w.cell? ⟨g, i * 2, none⟩ = some (.int .i64 s.seq) ∧ w.cell? ⟨g, i * 2 + 1, none⟩ = some (.int .i64 s.fr) := by
  have hl := (List.getElem?_eq_some_iff.1 hi).1
  obtain ⟨q0, q1⟩ := flatS_at hi
  subst hN
  unfold Sr at h
  have h0 := World.ownsRow.cellAt (size := 2) (n := l.length) h (i * 2) (by omega)
  have h1 := World.ownsRow.cellAt (size := 2) (n := l.length) h (i * 2 + 1) (by omega)
  exact ⟨h0.trans q0, h1.trans q1⟩
set_option maxHeartbeats 8000000 in
theorem alike_eq {B C : Nat} {v1 v2 : Value} {l : List St} {w : World} (h1 : Sr B v1 l w) (h2 : Sr C v2 l w) :
    Calls Try.prog 24 #[v1, v2] w fun e w' => e = .returned (.bool true) ∧ ∃ q, w' = w.drewN q := by
  obtain ⟨a1, c1, rfl, p1, p2⟩ := owns_form h1
  obtain ⟨a2, c2, rfl, _, _⟩ := owns_form h2
  obtain ⟨n, hn⟩ : ∃ n, l.length = n := ⟨_, rfl⟩
  rw [hn] at h1 h2 p1 ⊢
  have HA : Hid (Sr B (.slice a1 n c1) l w ∧ Sr C (.slice a2 n c2) l w ∧ l.length = n) := ⟨h1, h2, hn⟩
  have hd0 : ((n : Int) != (n : Int)) = false := by simp
  have he := neqSS
  unfold maxLen at p2
  have hn9 : n ≤ 9223372036854775807 := by omega
  clear h1 h2 hn p1 p2
  go_enter Try.func24, Try.ntmps24
  go_wp2_with fail
  go_loopw [5] (fun vi wr => ∃ i : Nat, i ≤ n ∧ vi = .int .i64 i ∧ ∃ q, wr = w.drewN q) (fun vi _ => n - (intOf vi).toNat)
  case atStart => exact ⟨0, Nat.zero_le _, by go_num, 0, rfl⟩
  case round =>
    obtain ⟨i, hi, rfl, q0, rfl⟩ := hrel
    by_cases hlt : i < n
    · have hdl : decide ((i : Int) < (n : Int)) = true := decide_eq_true (by omega)
      have hdm : decide (i < n) = true := decide_eq_true (by omega)
      obtain ⟨s, hs⟩ : ∃ s, l[i]? = some s := ⟨_, List.getElem?_eq_getElem (by rw [HA.out.2.2]; exact hlt)⟩
      have hli : (i : Int) < (n : Int) := by omega
      obtain ⟨g1, rfl⟩ : ∃ g, a1 = some ⟨g, 0, none⟩ := by
        rcases HA.out.1.2 with ⟨_, e0⟩ | ⟨g, _, _, e, _⟩
        · have := HA.out.2.2; omega
        · cases e; exact ⟨g, rfl⟩
      obtain ⟨g2, rfl⟩ : ∃ g, a2 = some ⟨g, 0, none⟩ := by
        rcases HA.out.2.1.2 with ⟨_, e0⟩ | ⟨g, _, _, e, _⟩
        · have := HA.out.2.2; omega
        · cases e; exact ⟨g, rfl⟩
      obtain ⟨x1, x2⟩ := HA.out.1.cell HA.out.2.2 hs
      obtain ⟨y1, y2⟩ := HA.out.2.1.cell HA.out.2.2 hs
      obtain ⟨sq, hsq⟩ : ∃ x, s.seq = x := ⟨_, rfl⟩
      obtain ⟨sf, hsf⟩ : ∃ x, s.fr = x := ⟨_, rfl⟩
      rw [hsq] at x1 y1
      rw [hsf] at x2 y2
      clear hs hsq hsf
      go_wp2_with fail
      go_quiet (fail)
      go_wp2_with fail
      go_roundw
      case rel => exact ⟨i + 1, by omega, by go_num, _, rfl⟩
      case measure => simp only [intOf]; omega
    · obtain rfl : i = n := by omega
      have hdl : decide ((i : Int) < (i : Int)) = false := by simp
      go_wp2_with fail
      go_ret
      exact ⟨rfl, _, rfl⟩
end Go.Proofs.Ytehghbinjfkhgaa
/- UndoDoes: the walk. -/
namespace Go.Proofs.Ytehghbinjfkhgaa
open Go.ChangeShapes Go.WideShapes Go.ChangeAt Go.RowKit Go.Maps Go.MapKept
set_option linter.unusedVariables false
set_option linter.unusedSimpArgs false
set_option maxRecDepth 100000
theorem eqlR (ad : Addr) (w : World) : Sem.run Try.prog (binOp BinOp.eql 41 (.pointer (some ad)) (.pointer none)) w = .ok (.bool false) w := by kernel_rfl
theorem eqlR0 (w : World) : Sem.run Try.prog (binOp BinOp.eql 41 (.pointer none) (.pointer none)) w = .ok (.bool true) w := by kernel_rfl
set_option maxHeartbeats 4000000 in
theorem rnew_none {most : Int} (h : most < 1 ∨ 200 < most) (w : World) : Calls Try.prog 22 #[.int .i64 most] w fun e w' => e = .returned (.pointer none) ∧ w' = w := by
  by_cases q : most < 1
  · have d1 : decide (most < 1) = true := decide_eq_true q
    go_enter Try.func22, Try.ntmps22
    go_wp2
    go_ret
    exact ⟨rfl, rfl⟩
  · have d1 : decide (most < 1) = false := decide_eq_false q
    have d2 : decide (most > 200) = true := decide_eq_true (by omega)
    have d3 : decide (200 < most) = true := decide_eq_true (by omega)
    go_enter Try.func22, Try.ntmps22
    go_wp2
    go_ret
    exact ⟨rfl, rfl⟩
/-- The laws' loop of does, whatever room. -/
def LpE (B t r i : Nat) (W w : World) : Prop := ∃ C m, Bt B C t r m w ∧ (1 ≤ m.most ∧ m.most ≤ 200) ∧ (m.L.length : Int) ≤ m.most ∧ m.next ≤ 1 + i ∧ Below B W w
theorem lpE_first {most : Int} (h1 : 1 ≤ most) (h2 : most ≤ 200) {W w w1 w2 : World} {t r : Nat} (k : Kp W w) (q1 : Tw w.heap.size w.heap.size t (first most) w1) (k1 : Kp w w1) (q2 : Rw w1.heap.size w1.heap.size r (first most) w2) (k2 : Kp w1 w2) : LpE W.heap.size t r 0 W w2 := by
  have z1 := k.size
  have z2 := k1.size
  have z3 := k2.size
  refine ⟨w1.heap.size, first most, ⟨((q1.low z1).kp k2).up z2, q2.low (Nat.le_trans z1 z2), inw_first most, by omega, by omega, by simp [first], by show (1 : Int) ≤ 9000; decide⟩, ⟨h1, h2⟩, by show (1 : Int) ≤ most; exact h1, by show (1 : Int) ≤ 1 + 0; decide, ?_⟩
  exact (kp_trans (kp_trans k k1) k2)
theorem lpE_step {W w w' : World} {B t r i : Nat} {m : Tr} (h1 : 1 ≤ m.most ∧ m.most ≤ 200) (h3 : m.next ≤ 1 + i) (hb : Below B W w) (h : DneE B t r m w w') : LpE B t r (i + 1) W w' := by
  obtain ⟨C, m', bt, st, bl⟩ := h
  have := st.nx
  exact ⟨C, m', bt, by rw [st.mo]; exact h1, by rw [st.mo]; exact st.len, by omega, hb.trans bl⟩
set_option maxHeartbeats 32000000 in
theorem udoes_walk {v : Value} {l : List Op12} {W : World} {most : Int} (hL : OpL W.heap.size v l W) (hok : ∀ o ∈ l, o.kd < 256 ∧ -9223372036854775808 ≤ o.n ∧ o.n < 9223372036854775808) (hw : wO l ≤ 1048576) :
    Calls Try.prog 6 #[.int .i64 most, v] W fun e w' => e = .returned (.bool true) ∧ Below W.heap.size W w' := by
  obtain ⟨a, cap, rfl, hc1, hc2⟩ : ∃ a cap, v = .slice a l.length cap ∧ l.length ≤ cap ∧ cap ≤ maxLen := by obtain ⟨a, cap, h1, h2, h3, _⟩ := hL; exact ⟨a, cap, h1, h2, h3⟩
  obtain ⟨N, hN⟩ : ∃ N, l.length = N := ⟨_, rfl⟩
  have HV : Hid _ := heavy_any hL.q (by omega)
  rw [hN] at HV hL hc1 ⊢
  have HA : Hid (OpL W.heap.size (.slice a N cap) l W ∧ (∀ o ∈ l, o.kd < 256 ∧ -9223372036854775808 ≤ o.n ∧ o.n < 9223372036854775808) ∧ l.length = N) := ⟨hL, hok, hN⟩
  have HFl : Hid (hvO l = false → l.length ≤ 120 ∧ ∀ o ∈ l, Few 2000 o.ds) := fun h => ⟨len_hv h, fun o ho => few_wO h ho⟩
  unfold maxLen at hc2
  generalize hvO l = h1 at HV HFl
  have he := eqlT
  have he0 := eqlT0
  have hr := eqlR
  have hr0 := eqlR0
  clear hL hok hN hw
  go_enter Try.func6, Try.ntmps6
  go_wp2_with fail
  refine Calls.mono HV.out ?_
  rintro e w1 ⟨rfl, k1, rfl⟩
  cases h1 with
  | true =>
    have HK : Hid _ := known_any (W.drewN k1)
    clear HV HFl
    go_wp2_with fail
    refine Calls.mono HK.out ?_
    rintro e w2 ⟨rfl, k2⟩
    have H2 : Hid (Kp W w2) := kp_trans (kp_drewN _ _) k2
    clear HK k2
    go_wp2_with fail
    go_ret
    exact ⟨rfl, H2.out⟩
  | false =>
    have HK : Hid _ := known_any (W.drewN k1)
    have HFo : Hid (∀ o ∈ l, Few 2000 o.ds) := (HFl.out (by trivial)).2
    have hN2 : N ≤ 120 := by have := (HFl.out (by trivial)).1; rw [HA.out.2.2] at this; exact this
    clear HV HFl
    go_wp2_with fail
    refine Calls.mono HK.out ?_
    rintro e w3 ⟨rfl, k3⟩
    have H3 : Hid (Kp W w3) := kp_trans (kp_drewN _ _) k3
    clear HK k3
    by_cases hm : most < 1 ∨ 200 < most
    · have HT : Hid _ := new_none hm w3
      have HR : Hid _ := rnew_none hm w3
      clear hm
      go_wp2_with fail
      refine Calls.mono HT.out ?_
      rintro e w4 ⟨rfl, rfl⟩
      clear HT
      go_wp2_with fail
      refine Calls.mono HR.out ?_
      rintro e w5 ⟨rfl, rfl⟩
      clear HR
      go_wp2_with fail
      go_ret
      exact ⟨rfl, H3.out⟩
    · have hm1 : 1 ≤ most ∧ most ≤ 200 := by omega
      have HT : Hid _ := new_any hm1.1 hm1.2 w3
      have HM1 : Hid (1 ≤ most ∧ most ≤ 200) := hm1
      clear hm hm1
      go_wp2_with fail
      refine Calls.mono HT.out ?_
      rintro e w4 ⟨t, rfl, t4, k4⟩
      have H4 : Hid (Tw w3.heap.size w3.heap.size t (first most) w4 ∧ Kp w3 w4) := ⟨t4, k4⟩
      have HR : Hid _ := rnew_any HM1.out.1 HM1.out.2 w4
      clear HT t4 k4
      go_wp2_with fail
      refine Calls.mono HR.out ?_
      rintro e w5 ⟨r, rfl, r5, k5⟩
      have H5 : Hid (LpE W.heap.size t r 0 W w5) := lpE_first HM1.out.1 HM1.out.2 H3.out H4.out.1 H4.out.2 r5 k5
      clear HR r5 k5 H3 H4
      go_wp2_with fail
      go_loopw [7] (fun v7 wr => ∃ i : Nat, i ≤ N ∧ v7 = .int .i64 i ∧ Hid (LpE W.heap.size t r i W wr)) (fun v7 _ => N - (intOf v7).toNat)
      case atStart => exact ⟨0, Nat.zero_le _, by go_num, H5.out⟩
      case round =>
        clear H5
        obtain ⟨i, hi, rfl, HI⟩ := hrel
        by_cases q : i < N
        · have g1 : decide ((i : Int) < (N : Int)) = true := decide_eq_true (by omega)
          have g2 : decide (i < N) = true := decide_eq_true (by omega)
          obtain ⟨C, m, bt, e1, e2, e3, bl⟩ := HI.out
          have hol := HA.out.1.below bl
          obtain ⟨o, ho⟩ : ∃ o, l[i]? = some o := ⟨_, List.getElem?_eq_getElem (by rw [HA.out.2.2]; exact q)⟩
          obtain ⟨a', cap', e, _, _, hcs⟩ := hol
          cases e
          obtain ⟨g, off, rfl, _, c0, c1, c2, hda⟩ := hcs i o ho
          have hom : o ∈ l := List.mem_of_getElem? ho
          obtain ⟨hk1, hn0, hn1⟩ := HA.out.2.1 o hom
          have HD : Hid _ := does_ev bt e1 (by omega) e2 (kd := (o.kd : Int)) (n := o.n) (by omega) (by omega) ⟨hn0, hn1⟩ hda (HFo.out o hom)
          have HM : Hid ((1 ≤ m.most ∧ m.most ≤ 200) ∧ m.next ≤ 1 + i ∧ Below W.heap.size W wr) := ⟨e1, e3, bl⟩
          obtain ⟨oa, on, oc, hov⟩ : ∃ a n c, o.v = .slice a n c := by obtain ⟨a, c, q, _⟩ := hda.form; exact ⟨a, _, c, q⟩
          rw [hov] at c2 HD
          obtain ⟨kd, hkd⟩ : ∃ k : Int, k = (o.kd : Int) := ⟨_, rfl⟩
          obtain ⟨on', hon⟩ : ∃ k : Int, k = o.n := ⟨_, rfl⟩
          rw [← hkd] at c0 HD
          rw [← hon] at c1 HD
          clear HI bt e1 e2 e3 bl hcs hda hom ho hk1 hn0 hn1 hov hkd hon
          go_wp2_with fail
          refine Calls.mono HD.out ?_
          rintro e w6 ⟨rfl, q6⟩
          have H6 : Hid (LpE W.heap.size t r (i + 1) W w6) := lpE_step HM.out.1 HM.out.2.1 HM.out.2.2 q6
          clear HD HM q6 c0 c1 c2
          obtain ⟨C2, m2, bt, e1, e2, e3, bl⟩ := H6.out
          have cA : w6.cell? ⟨r, 2, none⟩ = some (.int .i64 m2.now) := by obtain ⟨v, vs, h⟩ := bt.rw; exact h.box.at (j := 2) rfl
          have dN : (m2.now != m2.now) = false := by simp
          have I := bt.inw.inv
          have HN : Hid (∀ z, Kp w6 z → Calls Try.prog 14 #[.pointer (some ⟨t, 0, none⟩)] z fun e w' => e = .returned (.int .i64 m2.now) ∧ w' = z) := fun z kz => now_any (bt.tw.kp kz)
          have HS1 : Hid (∀ z, Kp w6 z → Calls Try.prog 25 #[.pointer (some ⟨t, 0, none⟩)] z fun e w' => ∃ a n c, e = .returned (.slice a n c) ∧ Hid (Sr 0 (.slice a n c) m2.L w' ∧ Kp w6 w')) := fun z kz => (states_any (bt.tw.kp kz) I.fam (by omega) (by have := bt.few; omega) I.sq).mono (by
            rintro e w' ⟨v, rfl, s1, s2⟩
            obtain ⟨a, c, rfl, _⟩ := owns_form s1
            exact ⟨a, _, c, rfl, row_lift s1 fun _ _ => Nat.zero_le _, kp_trans kz s2⟩)
          have HS2 : Hid (∀ z v1, Kp w6 z → Sr 0 v1 m2.L z → Calls Try.prog 26 #[.pointer (some ⟨r, 0, none⟩)] z fun e w' => ∃ a n c, e = .returned (.slice a n c) ∧ Hid (Kp w6 w' ∧ ∀ z2, Kp w' z2 → Calls Try.prog 24 #[v1, .slice a n c] z2 fun e w2 => e = .returned (.bool true) ∧ Hid (Kp w6 w2))) := fun z v1 kz s1 => (rstates_any (bt.rw.kp kz) (by have := bt.few; omega)).mono (by
            rintro e w' ⟨v, rfl, s3, s4⟩
            obtain ⟨a, c, rfl, _⟩ := owns_form s3
            refine ⟨a, _, c, rfl, kp_trans kz s4, fun z2 kz2 => (alike_eq (row_kp (row_kp s1 s4) kz2) (row_kp s3 kz2)).mono ?_⟩
            rintro e w2 ⟨rfl, q, rfl⟩
            exact ⟨rfl, kp_trans (kp_trans kz s4) (kp_trans kz2 (kp_drewN _ _))⟩)
          have HE : Hid (∀ z, Kp w6 z → LpE W.heap.size t r (i + 1) W z) := fun z kz => by
            obtain ⟨C2, m2, bt, e1, e2, e3, bl⟩ := H6.out
            exact ⟨C2, m2, bt.kp kz, e1, e2, e3, bl.trans (kz.mono bt.hB)⟩
          clear bt e1 e2 e3 bl I H6
          go_upto_region 11 with fail
          go_region_with (first | (go_at_call 14; refine Calls.mono (HN.out _ (by first | exact Below.refl _ _ | exact kp_drew _)) ?_; rintro e w7 ⟨rfl, rfl⟩) | (go_at_call 25; refine Calls.mono (HS1.out _ (by first | exact Below.refl _ _ | exact kp_drew _)) ?_; rintro e w7 ⟨sa, sn, sc, rfl, HX⟩; have HS3 : Hid _ := HS2.out _ _ HX.out.2 HX.out.1; clear HX) | (go_at_call 26; refine Calls.mono HS3.out ?_; rintro e w8 ⟨ta, tn, tc, rfl, HY⟩; have HS4 : Hid _ := HY.out.2 _ (by first | exact Below.refl _ _ | exact kp_drew _); clear HY) | (go_at_call 24; refine Calls.mono HS4.out ?_; rintro e w9 ⟨rfl, HZ⟩))
          all_goals
            have HZ2 : Hid _ := HE.out _ HZ.out
            clear HZ HE HN HS1 HS2 cA dN
            go_wp2_with fail
            go_roundw
            case rel => exact ⟨i + 1, by omega, by go_num, HZ2.out⟩
            case measure => simp only [intOf]; omega
        · obtain rfl : i = N := by omega
          have g1 : decide ((i : Int) < (i : Int)) = false := by simp
          have HX : Hid (Below W.heap.size W wr) := by obtain ⟨C, m, bt, e1, e2, e3, bl⟩ := HI.out; exact bl
          clear HI
          go_wp2_with fail
          go_ret
          exact ⟨rfl, HX.out⟩
theorem udoes_law (most : Int) (_ : -9223372036854775808 ≤ most ∧ most < 9223372036854775808) {v : Value} {l : List Op12} {W : World} (hL : OpL W.heap.size v l W) (hok : ∀ o ∈ l, o.kd < 256 ∧ -9223372036854775808 ≤ o.n ∧ o.n < 9223372036854775808) (hw : wO l ≤ 1048576) :
    Calls Try.prog 6 #[.int .i64 most, v] W fun e w' => e = .returned (.bool true) ∧ Below W.heap.size W w' := udoes_walk hL hok hw
end Go.Proofs.Ytehghbinjfkhgaa
/- UndoBounds: the walk. -/
namespace Go.Proofs.Ytehghbinjfkhgaa
open Go.ChangeShapes Go.WideShapes Go.ChangeAt Go.RowKit Go.Maps Go.MapKept
set_option linter.unusedVariables false
set_option linter.unusedSimpArgs false
set_option maxRecDepth 100000
theorem quiet_plus {f : FuncId} {args : Array Value} {w : World} {a n : Nat} {v : Value} (h : Calls Try.prog f args (w.drewN (a + n)) fun e w' => e = .returned v ∧ w' = w.drewN (a + n)) : Calls Try.prog f args (w.drewN (a + n)) fun e w'' => e = .returned v ∧ ∃ m, w'' = w.drewN (a + m) := h.mono fun _ _ ⟨he, hm⟩ => ⟨he, n, hm⟩
/-- The loop of does, with so many at most. -/
def LpB (B t r i : Nat) (n : Int) (W w : World) : Prop := ∃ C m, Bt B C t r m w ∧ m.most = n ∧ (m.L.length : Int) ≤ n ∧ m.next ≤ 1 + i ∧ Below B W w
theorem lpB_first {most : Int} (h1 : 1 ≤ most) (h2 : most ≤ 200) {W w w1 w2 : World} {t r : Nat} (k : Kp W w) (q1 : Tw w.heap.size w.heap.size t (first most) w1) (k1 : Kp w w1) (q2 : Rw w1.heap.size w1.heap.size r (first most) w2) (k2 : Kp w1 w2) : LpB W.heap.size t r 0 most W w2 := by
  have z1 := k.size
  have z2 := k1.size
  have z3 := k2.size
  refine ⟨w1.heap.size, first most, ⟨((q1.low z1).kp k2).up z2, q2.low (Nat.le_trans z1 z2), inw_first most, by omega, by omega, by simp [first], by show (1 : Int) ≤ 9000; decide⟩, rfl, by show (1 : Int) ≤ most; exact h1, by show (1 : Int) ≤ 1 + 0; decide, ?_⟩
  exact (kp_trans (kp_trans k k1) k2)
/-- What the states of a tree are: the first one is made from none, each other one from one ahead of it; the one that is is among them. -/
structure Lay (L : List St) (now : Int) (kn : Nat) : Prop where
  pos : 0 < L.length
  knl : kn < L.length
  at_ : ∀ (k : Nat) (s : St), L[k]? = some s → (s.seq = now ↔ k = kn)
  root : ∀ s, L[0]? = some s → s.fr = -1
  par : ∀ (k : Nat) (s : St), 0 < k → L[k]? = some s → s.fr ≠ -1 ∧ ∃ p, p < k ∧ ∀ (j : Nat) (s' : St), L[j]? = some s' → (s'.seq = s.fr ↔ j = p)
  sq : ∀ (j k : Nat) (s s' : St), j < k → L[j]? = some s → L[k]? = some s' → s.seq < s'.seq
theorem lay_of {m : Tr} (I : Inw m) : ∃ kn, Lay m.L m.now kn := by
  have hs := I.inv.sq
  have F := I.inv.fam
  have sq : ∀ (j k : Nat) (s s' : St), j < k → m.L[j]? = some s → m.L[k]? = some s' → s.seq < s'.seq := fun j k s s' hj h1 h2 => by
    have q1 : (m.L.map St.seq)[j]? = some s.seq := by rw [List.getElem?_map, h1]; rfl
    have q2 : (m.L.map St.seq)[k]? = some s'.seq := by rw [List.getElem?_map, h2]; rfl
    obtain ⟨l1, e1⟩ := List.getElem?_eq_some_iff.1 q1
    obtain ⟨l2, e2⟩ := List.getElem?_eq_some_iff.1 q2
    rw [← e1, ← e2]
    exact List.pairwise_iff_getElem.1 hs j k l1 l2 hj
  have uniq : ∀ (x : Int) (p : Nat) (sp : St), m.L[p]? = some sp → sp.seq = x → ∀ (j : Nat) (s' : St), m.L[j]? = some s' → (s'.seq = x ↔ j = p) := fun x p sp hp e j s' h => by
    constructor
    · intro e'
      rcases Nat.lt_trichotomy j p with q | q | q
      · have := sq _ _ _ _ q h hp; omega
      · exact q
      · have := sq _ _ _ _ q hp h; omega
    · rintro rfl; rw [hp] at h; cases h; exact e
  obtain ⟨sn, hsn⟩ := Option.ne_none_iff_exists'.1 I.inv.nw
  obtain ⟨kn, hkn⟩ := List.getElem?_of_mem (look_mem hsn)
  have hknl := (List.getElem?_eq_some_iff.1 hkn).1
  obtain ⟨r, M, hL⟩ : ∃ r M, m.L = r :: M := by
    cases e : m.L with
    | nil => rw [e] at hkn; cases hkn
    | cons r M => exact ⟨r, M, rfl⟩
  have F2 := F
  have hs2 := hs
  rw [hL] at F2 hs2
  obtain ⟨r1, r2, r3⟩ := root_first F2 hs2
  rw [← hL] at r1 r3
  have h0 : m.L[0]? = some r := by rw [hL]; rfl
  refine ⟨kn, by omega, hknl, uniq _ _ _ hkn (look_seq hsn), fun s h => by rw [h0] at h; cases h; exact r2, fun k s hk h => ?_, sq⟩
  have hl := look_at hs h
  have hfr : s.fr ≠ -1 := fun e => by
    have := r3 _ _ hl e
    have := sq _ _ _ _ hk h0 h
    omega
  obtain ⟨sp, hsp⟩ := Option.ne_none_iff_exists'.1 (F.from_there hl hfr)
  obtain ⟨p, hp⟩ := List.getElem?_of_mem (look_mem hsp)
  have hlt := F.fr _ _ hl
  refine ⟨hfr, p, ?_, uniq _ _ _ hp (look_seq hsp)⟩
  rcases Nat.lt_trichotomy p k with q | q | q
  · exact q
  · subst q; rw [hp] at h; cases h; rw [look_seq hsp] at hlt; omega
  · have := sq _ _ _ _ q h hp; rw [look_seq hsp] at this; omega
set_option maxHeartbeats 64000000 in
theorem bounds_walk {v : Value} {l : List Op12} {W : World} {most : Int} (h0 : 0 ≤ most) (h1 : most < 256) (hL : OpL W.heap.size v l W) (hok : ∀ o ∈ l, o.kd < 256 ∧ -9223372036854775808 ≤ o.n ∧ o.n < 9223372036854775808) (hw : wO l ≤ 1048576) :
    Calls Try.prog 9 #[.int .u8 most, v] W fun e w' => e = .returned (.bool true) ∧ Below W.heap.size W w' := by
  obtain ⟨a, cap, rfl, hc1, hc2⟩ : ∃ a cap, v = .slice a l.length cap ∧ l.length ≤ cap ∧ cap ≤ maxLen := by obtain ⟨a, cap, h1, h2, h3, _⟩ := hL; exact ⟨a, cap, h1, h2, h3⟩
  obtain ⟨N, hN⟩ : ∃ N, l.length = N := ⟨_, rfl⟩
  have HV : Hid _ := heavy_any hL.q (by omega)
  rw [hN] at HV hL hc1 ⊢
  have HA : Hid (OpL W.heap.size (.slice a N cap) l W ∧ (∀ o ∈ l, o.kd < 256 ∧ -9223372036854775808 ≤ o.n ∧ o.n < 9223372036854775808) ∧ l.length = N) := ⟨hL, hok, hN⟩
  have HFl : Hid (hvO l = false → l.length ≤ 120 ∧ ∀ o ∈ l, Few 2000 o.ds) := fun h => ⟨len_hv h, fun o ho => few_wO h ho⟩
  unfold maxLen at hc2
  generalize hvO l = h1 at HV HFl
  have he := eqlT
  clear hL hok hN hw
  go_enter Try.func9, Try.ntmps9
  go_wp2_with fail
  refine Calls.mono HV.out ?_
  rintro e w1 ⟨rfl, k1, rfl⟩
  cases h1 with
  | true =>
    have HK : Hid _ := known_any (W.drewN k1)
    clear HV HFl
    go_wp2_with fail
    refine Calls.mono HK.out ?_
    rintro e w2 ⟨rfl, k2⟩
    have H2 : Hid (Kp W w2) := kp_trans (kp_drewN _ _) k2
    clear HK k2
    go_wp2_with fail
    go_ret
    exact ⟨rfl, H2.out⟩
  | false =>
    have HK : Hid _ := known_any (W.drewN k1)
    have HFo : Hid (∀ o ∈ l, Few 2000 o.ds) := (HFl.out (by trivial)).2
    have hN2 : N ≤ 120 := by have := (HFl.out (by trivial)).1; rw [HA.out.2.2] at this; exact this
    clear HV HFl
    go_wp2_with fail
    refine Calls.mono HK.out ?_
    rintro e w3 ⟨rfl, k3⟩
    have H3 : Hid (Kp W w3) := kp_trans (kp_drewN _ _) k3
    clear HK k3
    go_upto_region 4 with fail
    obtain ⟨n, hn⟩ : ∃ n, 1 + most % 200 = n := ⟨_, rfl⟩
    have hn1 : 1 ≤ n ∧ n ≤ 200 := by omega
    rw [hn]
    have HM1 : Hid (1 ≤ n ∧ n ≤ 200) := hn1
    have HT : Hid _ := new_any hn1.1 hn1.2 w3
    clear hn
    go_wp2_with fail
    refine Calls.mono HT.out ?_
    rintro e w4 ⟨t, rfl, t4, k4⟩
    have H4 : Hid (Tw w3.heap.size w3.heap.size t (first n) w4 ∧ Kp w3 w4) := ⟨t4, k4⟩
    have HR : Hid _ := rnew_any HM1.out.1 HM1.out.2 w4
    clear HT t4 k4
    go_wp2_with fail
    refine Calls.mono HR.out ?_
    rintro e w5 ⟨r, rfl, r5, k5⟩
    have H5 : Hid (LpB W.heap.size t r 0 n W w5) := lpB_first HM1.out.1 HM1.out.2 H3.out H4.out.1 H4.out.2 r5 k5
    clear HR r5 k5 H3 H4
    go_wp2_with fail
    go_loopw [8] (fun v8 wr => ∃ i : Nat, i ≤ N ∧ v8 = .int .i64 i ∧ Hid (LpB W.heap.size t r i n W wr)) (fun v8 _ => N - (intOf v8).toNat)
    case atStart => exact ⟨0, Nat.zero_le _, by go_num, H5.out⟩
    case round =>
      clear H5
      obtain ⟨i, hi, rfl, HI⟩ := hrel
      by_cases q : i < N
      · have g1 : decide ((i : Int) < (N : Int)) = true := decide_eq_true (by omega)
        have g2 : decide (i < N) = true := decide_eq_true (by omega)
        obtain ⟨C, m, bt, e1, e2, e3, bl⟩ := HI.out
        have hol := HA.out.1.below bl
        obtain ⟨o, ho⟩ : ∃ o, l[i]? = some o := ⟨_, List.getElem?_eq_getElem (by rw [HA.out.2.2]; exact q)⟩
        obtain ⟨a', cap', e, _, _, hcs⟩ := hol
        cases e
        obtain ⟨g, off, rfl, _, c0, c1, c2, hda⟩ := hcs i o ho
        have hom : o ∈ l := List.mem_of_getElem? ho
        obtain ⟨hk1, hn0, hn1'⟩ := HA.out.2.1 o hom
        have HD : Hid _ := does_ev bt (by rw [e1]; exact HM1.out) (by omega) (by rw [e1]; exact e2) (kd := (o.kd : Int)) (n := o.n) (by omega) (by omega) ⟨hn0, hn1'⟩ hda (HFo.out o hom)
        have HM : Hid (m.most = n ∧ m.next ≤ 1 + i ∧ Below W.heap.size W wr) := ⟨e1, e3, bl⟩
        obtain ⟨oa, on, oc, hov⟩ : ∃ a n c, o.v = .slice a n c := by obtain ⟨a, c, q, _⟩ := hda.form; exact ⟨a, _, c, q⟩
        rw [hov] at c2 HD
        obtain ⟨kd, hkd⟩ : ∃ k : Int, k = (o.kd : Int) := ⟨_, rfl⟩
        obtain ⟨on', hon⟩ : ∃ k : Int, k = o.n := ⟨_, rfl⟩
        rw [← hkd] at c0 HD
        rw [← hon] at c1 HD
        clear HI bt e1 e2 e3 bl hcs hda hom ho hk1 hn0 hn1' hov hkd hon
        go_wp2_with fail
        refine Calls.mono HD.out ?_
        rintro e w6 ⟨rfl, C2, m2, bt, st, bl⟩
        have I := bt.inw
        have hmm : m2.most = n := st.mo.trans HM.out.1
        have hll : (m2.L.length : Int) ≤ n := by have := st.len; rw [HM.out.1] at this; exact this
        obtain ⟨kn, hlay⟩ := lay_of I
        have HS1 : Hid (Calls Try.prog 25 #[.pointer (some ⟨t, 0, none⟩)] w6 fun e w' => ∃ v, e = .returned v ∧ Hid (Sr w6.heap.size v m2.L w' ∧ LpB W.heap.size t r (i + 1) n W w' ∧ ∀ z, Kp w' z → Calls Try.prog 14 #[.pointer (some ⟨t, 0, none⟩)] z fun e w2 => e = .returned (.int .i64 m2.now) ∧ w2 = z)) := (states_any bt.tw I.inv.fam (by have := bt.nx; omega) (by have := bt.few; omega) I.inv.sq).mono (by
          rintro e w' ⟨v, rfl, s1, s2⟩
          refine ⟨v, rfl, s1, ⟨C2, m2, bt.kp s2, hmm, hll, by have := st.nx; have := HM.out.2.1; omega, (HM.out.2.2.trans bl).trans (s2.mono bt.hB)⟩, fun z kz => now_any ((bt.kp s2).tw.kp kz)⟩)
        have HLY : Hid (Lay m2.L m2.now kn ∧ (m2.L.length : Int) ≤ n) := ⟨hlay, hll⟩
        clear HD HM bt st bl I hmm hll hlay c0 c1 c2
        go_wp2_with fail
        refine Calls.mono HS1.out ?_
        rintro e w7 ⟨v7, rfl, H7⟩
        obtain ⟨sr, hlp, hnw⟩ := H7.out
        obtain ⟨N2, hN2'⟩ : ∃ N2, m2.L.length = N2 := ⟨_, rfl⟩
        obtain ⟨sa, sc, hv7, _⟩ := owns_form sr
        have hpos := HLY.out.1.pos
        obtain ⟨gs, hgs⟩ : ∃ gs, sa = some ⟨gs, 0, none⟩ := by
          rcases sr.2 with ⟨_, e0⟩ | ⟨g', c', cur, e0, _⟩
          · omega
          · rw [hv7] at e0; simp only [Value.slice.injEq] at e0; exact ⟨g', e0.1⟩
        subst hgs
        subst hv7
        have HCL : Hid (∀ (j : Nat) (s : St), m2.L[j]? = some s → w7.cell? ⟨gs, j * 2, none⟩ = some (.int .i64 s.seq) ∧ w7.cell? ⟨gs, j * 2 + 1, none⟩ = some (.int .i64 s.fr)) := fun j s hj => sr.cell rfl hj
        have HLP : Hid (∀ z, Kp w7 z → LpB W.heap.size t r (i + 1) n W z) := fun z kz => by
          obtain ⟨C2, m2, bt, e1, e2, e3, bl⟩ := hlp
          exact ⟨C2, m2, bt.kp kz, e1, e2, e3, bl.trans (kz.mono bt.hB)⟩
        have HNW : Hid (∀ z, Kp w7 z → Calls Try.prog 14 #[.pointer (some ⟨t, 0, none⟩)] z fun e w2 => e = .returned (.int .i64 m2.now) ∧ w2 = z) := hnw
        have hN2l : (N2 : Int) ≤ n := by have := HLY.out.2; omega
        have hknN : kn < N2 := by have := HLY.out.1.knl; omega
        rw [hN2']
        have HN2 : Hid (m2.L.length = N2 ∧ 0 < N2) := ⟨hN2', by omega⟩
        clear HS1 H7 sr hlp hnw hpos hN2'
        go_wp2_with fail
        go_loopw [10, 11, 12] (fun v10 v11 v12 wr => ∃ (k q : Nat) (ρ : Int) (ν : Bool), k ≤ N2 ∧ v10 = .int .i64 ρ ∧ v11 = .bool ν ∧ v12 = .int .i64 k ∧ wr = w7.drewN q ∧ 0 ≤ ρ ∧ ρ ≤ 1 ∧ Hid ((0 < k → ρ = 1) ∧ (k = 0 → ρ = 0) ∧ ν = decide (kn < k))) (fun _ _ v12 _ => N2 - (intOf v12).toNat)
        case atStart => exact ⟨0, 0, 0, false, Nat.zero_le _, rfl, rfl, rfl, rfl, by decide, by decide, by simp, by simp, by simp⟩
        case round =>
          obtain ⟨k, qk, ρ, ν, hk, rfl, rfl, rfl, rfl, hρ0, hρ1, HR⟩ := hrel
          by_cases qq : k < N2
          · have g3 : decide ((k : Int) < (N2 : Int)) = true := decide_eq_true (by omega)
            have g4 : decide (k < N2) = true := decide_eq_true (by omega)
            have hkI : (k : Int) < (N2 : Int) := by omega
            obtain ⟨sk, hsk⟩ : ∃ s, m2.L[k]? = some s := ⟨_, List.getElem?_eq_getElem (by have := HN2.out; omega)⟩
            obtain ⟨y0, y1⟩ := HCL.out k sk hsk
            have HSK : Hid (m2.L[k]? = some sk ∧ (sk.seq = m2.now ↔ k = kn)) := ⟨hsk, HLY.out.1.at_ k sk hsk⟩
            clear hsk
            rcases Nat.eq_zero_or_pos k with p | p
            · subst p
              have hfr : sk.fr = -1 := HLY.out.1.root sk HSK.out.1
              have hρ : ρ = 0 := HR.out.2.1 rfl
              subst hρ
              rw [hfr] at y1
              have HSF : Hid (sk.fr = -1) := hfr
              have y0' : w7.cell? ⟨gs, 0, none⟩ = some (.int .i64 sk.seq) := y0
              have y1' : w7.cell? ⟨gs, 1, none⟩ = some (.int .i64 (-1)) := y1
              clear hfr
              go_wp2_with fail
              go_loopw [13, 14] (fun v13 v14 wr => v13 = .bool true ∧ v14 = .int .i64 0 ∧ wr = w7.drewN qk) (fun _ _ _ => 0)
              case atStart => exact ⟨rfl, rfl, rfl⟩
              case round =>
                obtain ⟨rfl, rfl, rfl⟩ := hrel
                go_upto_region 25 with fail
                by_cases q8 : kn < (0 : Nat)
                · have hν : ν = true := by rw [HR.out.2.2]; exact decide_eq_true q8
                  subst hν
                  have HNX : Hid (true = decide (kn < (0 : Nat) + 1)) := (decide_eq_true (by omega)).symm
                  clear HR q8
                  go_quiet (fail)
                  go_wp2_with fail
                  go_quiet (fail)
                  go_wp2_with fail
                  go_roundw
                  case rel => exact ⟨1, _, 1, true, by omega, rfl, rfl, rfl, by first | exact drew2 _ _ _ | rfl, by decide, by decide, fun _ => rfl, fun e => by omega, HNX.out⟩
                  case measure => simp only [intOf]; omega
                · have hν : ν = false := by rw [HR.out.2.2]; exact decide_eq_false q8
                  subst hν
                  by_cases q9 : (0 : Nat) = kn
                  · have e9 : sk.seq = m2.now := HSK.out.2.2 q9
                    have b9 : (sk.seq == m2.now) = true := by rw [e9]; exact beq_self_eq_true _
                    have HNX : Hid (true = decide (kn < (0 : Nat) + 1)) := (decide_eq_true (by omega)).symm
                    have HSQ : Hid (sk.seq = m2.now) := e9
                    clear HR q8 q9 e9
                    go_quiet ((go_at_call 14; exact quiet_plus (HNW.out _ (kp_drewN _ _))))
                    go_wp2_with fail
                    go_quiet (fail)
                    go_wp2_with fail
                    go_roundw
                    case rel => exact ⟨1, _, 1, true, by omega, rfl, rfl, rfl, by first | exact drew2 _ _ _ | rfl, by decide, by decide, fun _ => rfl, fun e => by omega, HNX.out⟩
                    case measure => simp only [intOf]; omega
                  · have e9 : (sk.seq == m2.now) = false := beq_eq_false_iff_ne.2 (fun e => q9 (HSK.out.2.1 e))
                    have HNX : Hid (false = decide (kn < (0 : Nat) + 1)) := (decide_eq_false (by omega)).symm
                    clear HR q8 q9
                    go_quiet ((go_at_call 14; exact quiet_plus (HNW.out _ (kp_drewN _ _))))
                    go_wp2_with fail
                    go_quiet (fail)
                    go_wp2_with fail
                    go_roundw
                    case rel => exact ⟨1, _, 1, false, by omega, rfl, rfl, rfl, by first | exact drew2 _ _ _ | rfl, by decide, by decide, fun _ => rfl, fun e => by omega, HNX.out⟩
                    case measure => simp only [intOf]; omega
            · have hfr := HLY.out.1.par k sk p HSK.out.1
              obtain ⟨hf1, pf, hpf, hpf2⟩ := hfr
              have d5 : (sk.fr == -1) = false := by simpa using hf1
              have HPF : Hid (∀ (j : Nat) (s' : St), m2.L[j]? = some s' → (s'.seq = sk.fr ↔ j = pf)) := hpf2
              have hρ : ρ = 1 := HR.out.1 p
              subst hρ
              clear hf1 hpf2
              go_wp2_with fail
              go_loopw [13, 14] (fun v13 v14 wr => ∃ (j qj : Nat), j ≤ k ∧ v13 = .bool (decide (pf < j)) ∧ v14 = .int .i64 j ∧ wr = w7.drewN qj) (fun _ v14 _ => k - (intOf v14).toNat)
              case atStart => exact ⟨0, qk, Nat.zero_le _, by simp, rfl, rfl⟩
              case round =>
                obtain ⟨j, qj, hj, rfl, rfl, rfl⟩ := hrel
                by_cases q6 : j < k
                · have g5 : decide ((j : Int) < (k : Int)) = true := decide_eq_true (by omega)
                  have g6 : decide (j < k) = true := decide_eq_true q6
                  have hjI : (j : Int) < (N2 : Int) := by omega
                  obtain ⟨sj, hsj⟩ : ∃ s, m2.L[j]? = some s := ⟨_, List.getElem?_eq_getElem (by have := HN2.out; omega)⟩
                  obtain ⟨z0, z1⟩ := HCL.out j sj hsj
                  have hiff := HPF.out j sj hsj
                  rcases Nat.lt_trichotomy pf j with q7 | q7 | q7
                  · have b1 : decide (pf < j) = true := decide_eq_true q7
                    have b2 : decide (pf < j + 1) = true := decide_eq_true (by omega)
                    clear hiff hsj
                    rw [b1]
                    go_upto_region 24 with fail
                    go_quiet (fail)
                    go_wp2_with fail
                    go_roundw
                    case rel => exact ⟨j + 1, qj + nq, by omega, by rw [b2], by go_num, by first | exact drew2 _ _ _ | rfl⟩
                    case measure => simp only [intOf]; omega
                  · subst q7
                    have b1 : decide (pf < pf) = false := by simp
                    have b2 : decide (pf < pf + 1) = true := decide_eq_true (by omega)
                    have e7 : sj.seq = sk.fr := hiff.2 rfl
                    rw [e7] at z0
                    have b3 : (sk.fr == sk.fr) = true := beq_self_eq_true _
                    clear hiff hsj e7
                    rw [b1]
                    go_upto_region 24 with fail
                    go_quiet (fail)
                    go_wp2_with fail
                    go_roundw
                    case rel => exact ⟨pf + 1, qj + nq, by omega, by rw [b2], by go_num, by first | exact drew2 _ _ _ | rfl⟩
                    case measure => simp only [intOf]; omega
                  · have b1 : decide (pf < j) = false := decide_eq_false (by omega)
                    have b2 : decide (pf < j + 1) = false := decide_eq_false (by omega)
                    have b3 : (sj.seq == sk.fr) = false := beq_eq_false_iff_ne.2 (fun e => by have := hiff.1 e; omega)
                    clear hiff hsj
                    rw [b1]
                    go_upto_region 24 with fail
                    go_quiet (fail)
                    go_wp2_with fail
                    go_roundw
                    case rel => exact ⟨j + 1, qj + nq, by omega, by rw [b2], by go_num, by first | exact drew2 _ _ _ | rfl⟩
                    case measure => simp only [intOf]; omega
                · obtain rfl : j = k := by omega
                  have g5 : decide ((j : Int) < (j : Int)) = false := by simp
                  have b1 : decide (pf < j) = true := decide_eq_true hpf
                  obtain ⟨j', rfl⟩ : ∃ j', j = j' + 1 := ⟨j - 1, by omega⟩
                  obtain ⟨sp, hsp⟩ : ∃ s, m2.L[j']? = some s := ⟨_, List.getElem?_eq_getElem (by have := HN2.out; omega)⟩
                  obtain ⟨x0, _⟩ := HCL.out j' sp hsp
                  have hsq := HLY.out.1.sq j' (j' + 1) sp sk (by omega) hsp HSK.out.1
                  have d6 : decide (sk.seq ≤ sp.seq) = false := decide_eq_false (by omega)
                  have d7 : decide ((((j' + 1 : Nat) : Int)) > 0) = true := decide_eq_true (by omega)
                  have d8 : decide ((0 : Int) < ((j' + 1 : Nat) : Int)) = true := decide_eq_true (by omega)
                  have d9 : ((j' + 1 : Nat) : Int) - 1 = (j' : Int) := by omega
                  have hjI' : (j' : Int) < (N2 : Int) := by omega
                  clear hsp hsq
                  rw [b1]
                  go_upto_region 25 with fail
                  by_cases q8 : kn < (j' + 1)
                  · have hν : ν = true := by rw [HR.out.2.2]; exact decide_eq_true q8
                    subst hν
                    have HNX : Hid (true = decide (kn < (j' + 1) + 1)) := (decide_eq_true (by omega)).symm
                    clear HR q8
                    go_quiet (fail)
                    go_wp2_with fail
                    go_quiet (fail)
                    go_wp2_with fail
                    go_roundw
                    case rel => exact ⟨(j' + 1) + 1, _, 1, true, by omega, rfl, rfl, by go_num, by first | exact drew2 _ _ _ | rfl, by decide, by decide, fun _ => rfl, fun e => by omega, HNX.out⟩
                    case measure => simp only [intOf]; omega
                  · have hν : ν = false := by rw [HR.out.2.2]; exact decide_eq_false q8
                    subst hν
                    by_cases q9 : (j' + 1) = kn
                    · have e9 : sk.seq = m2.now := HSK.out.2.2 q9
                      have b9 : (sk.seq == m2.now) = true := by rw [e9]; exact beq_self_eq_true _
                      have HNX : Hid (true = decide (kn < (j' + 1) + 1)) := (decide_eq_true (by omega)).symm
                      have HSQ : Hid (sk.seq = m2.now) := e9
                      clear HR q8 q9 e9
                      go_quiet ((go_at_call 14; exact quiet_plus (HNW.out _ (kp_drewN _ _))))
                      go_wp2_with fail
                      go_quiet (fail)
                      go_wp2_with fail
                      go_roundw
                      case rel => exact ⟨(j' + 1) + 1, _, 1, true, by omega, rfl, rfl, by go_num, by first | exact drew2 _ _ _ | rfl, by decide, by decide, fun _ => rfl, fun e => by omega, HNX.out⟩
                      case measure => simp only [intOf]; omega
                    · have e9 : (sk.seq == m2.now) = false := beq_eq_false_iff_ne.2 (fun e => q9 (HSK.out.2.1 e))
                      have HNX : Hid (false = decide (kn < (j' + 1) + 1)) := (decide_eq_false (by omega)).symm
                      clear HR q8 q9
                      go_quiet ((go_at_call 14; exact quiet_plus (HNW.out _ (kp_drewN _ _))))
                      go_wp2_with fail
                      go_quiet (fail)
                      go_wp2_with fail
                      go_roundw
                      case rel => exact ⟨(j' + 1) + 1, _, 1, false, by omega, rfl, rfl, by go_num, by first | exact drew2 _ _ _ | rfl, by decide, by decide, fun _ => rfl, fun e => by omega, HNX.out⟩
                      case measure => simp only [intOf]; omega
          · obtain rfl : k = N2 := by omega
            have g3 : decide ((k : Int) < (k : Int)) = false := by simp
            have hρ : ρ = 1 := HR.out.1 (by have := HN2.out; omega)
            subst hρ
            have hν : ν = true := by rw [HR.out.2.2]; exact decide_eq_true hknN
            subst hν
            have b1 : decide ((k : Int) > n) = false := decide_eq_false (by omega)
            have b2 : decide (n < (k : Int)) = false := decide_eq_false (by omega)
            have HX : Hid (∀ q, LpB W.heap.size t r (i + 1) n W (w7.drewN q)) := fun q => HLP.out _ (kp_drewN _ _)
            clear HR HLP HNW HCL HLY
            go_wp2_with fail
            try go_quiet (fail)
            try go_wp2_with fail
            go_roundw
            case rel => exact ⟨i + 1, by omega, by go_num, HX.out _⟩
            case measure => simp only [intOf]; omega
      · obtain rfl : i = N := by omega
        have g1 : decide ((i : Int) < (i : Int)) = false := by simp
        have HX : Hid (Below W.heap.size W wr) := by obtain ⟨C, m, bt, e1, e2, e3, bl⟩ := HI.out; exact bl
        clear HI
        go_wp2_with fail
        go_ret
        exact ⟨rfl, HX.out⟩
theorem bounds_law (n : Nat) (h : n < 256) {v : Value} {l : List Op12} {W : World} (hL : OpL W.heap.size v l W) (hok : ∀ o ∈ l, o.kd < 256 ∧ -9223372036854775808 ≤ o.n ∧ o.n < 9223372036854775808) (hw : wO l ≤ 1048576) :
    Calls Try.prog 9 #[.int .u8 n, v] W fun e w' => e = .returned (.bool true) ∧ Below W.heap.size W w' := bounds_walk (by omega) (by omega) hL hok hw
end Go.Proofs.Ytehghbinjfkhgaa
