/- Texts that the proof of the law stands on: HN, TE, ZG, ZH, VT, ZI, ZJ. -/
import Derived.Test.YtbkhhgaihhbhjaaPartE
import Derived.Test.YtbkhhgaihhbhjaaPartB
import Derived.Test.YtbkhhgaihhbhjaaPartD
import Derived.Test.YtbkhhgaihhbhjaaPartA
import Derived.Test.YtbkhhgaihhbhjaaRows
import Derived.Lib.SmallJoins
import Derived.OpenShut
import Derived.Deep.Slices
import Derived.Deep.Strs
/- Add, whatever room there is. -/
namespace Go.Proofs.Ytbkhhgaihhbhjaa
open Go.ChangeShapes Go.WideShapes Go.ChangeAt Go.RowKit Go.Maps Go.MapKept
set_option linter.unusedVariables false
set_option linter.unusedSimpArgs false
set_option maxRecDepth 100000
/-- How many lie in the tree at t. -/
def cntOf (t : Nat) (w : World) : Nat := match w.cell? ⟨t, 0, none⟩ with
  | some (.map (some b)) => (match w.heap[b]? with
    | some (.map es _) => es.size
    | _ => 0)
  | _ => 0
theorem cnt_eq {B C t : Nat} {m : Tr} {w : World} (h : Tw B C t m w) (hn : (m.L.map St.seq).Nodup) : cntOf t w = m.L.length := by
  obtain ⟨b, q, h⟩ := h
  unfold cntOf
  rw [h.box.at (j := 0) rfl]
  obtain ⟨es, c, hb, S, H⟩ := h.map
  simp only [hb]
  have hp : (es.toList.map (·.key)).Perm (m.L.map fun s => Value.int .i64 s.seq) := by
    refine (List.perm_ext_iff_of_nodup ?_ ?_).2 fun v => ?_
    · have := ((stamped_iff es c).1 S).2.2
      exact List.pairwise_map.2 this
    · have : (m.L.map fun s => Value.int .i64 s.seq) = (m.L.map St.seq).map (Value.int .i64) := by simp
      rw [this]
      exact List.pairwise_map.2 (hn.imp fun h e => h (by cases e; rfl))
    · rw [List.mem_map, List.mem_map]
      constructor
      · rintro ⟨a, ha, rfl⟩
        obtain ⟨x, hx, _, _, hv⟩ := H.on a ha
        unfold ptrs at hv
        obtain ⟨s, hs, _⟩ := Option.map_eq_some_iff.1 hv
        exact ⟨s, look_mem hs, by rw [hx, look_seq hs]⟩
      · rintro ⟨s, hs, rfl⟩
        have : look m.L s.seq ≠ none := by
          intro e
          have := List.find?_eq_none.1 e s hs
          simp at this
        obtain ⟨s', hs'⟩ := Option.ne_none_iff_exists'.1 this
        obtain ⟨a, ha, hk, _⟩ := H.at_ s.seq (.pointer (some ⟨q s.seq, 0, none⟩)) (by unfold ptrs; rw [hs']; rfl)
        exact ⟨a, ha, hk⟩
  have := hp.length_eq
  simpa using this
/-- Where the loop of Add stands. -/
def Loo (B t : Nat) (m : Tr) (ds : List Dl) (w wr : World) : Prop :=
  (Tw B wr.heap.size t (addT m ds) wr ∧ Ff TP B w wr) ∨ (m.most < ((addT m ds).L.length : Int) ∧ Tw B wr.heap.size t (evT (addT m ds)) wr ∧ Ff TP B w wr)
section
variable {B C t : Nat} {m : Tr} {w : World}
set_option maxHeartbeats 16000000 in
theorem add_any (h : Tw B C t m w) (I : Inw m) (hn : m.next ≤ 9999) (hm : (m.L.length : Int) ≤ m.most) (hmo : 1 ≤ m.most ∧ m.most ≤ 200) (hB : B ≤ w.heap.size)
    {P : Nat → Prop} {X : Xl} {D : Nat} (ok : Okx D X) {v : Value} {ds : List Dl} (hd : Dr P X v ds w) (hf : Few 2000 ds) :
    Calls Try.prog 12 #[.pointer (some ⟨t, 0, none⟩), v] w fun e w' => e = .returned (.int .i64 m.next) ∧ Tw B w'.heap.size t (addE m ds) w' ∧ Ff TP B w w' := by
  have F := I.inv.fam
  have hsq := I.inv.nodup
  have hw := I.inv.nw
  have HI : Hid (Inw m ∧ m.next ≤ 9999 ∧ (m.L.length : Int) ≤ m.most ∧ (1 ≤ m.most ∧ m.most ≤ 200) ∧ Few 2000 ds) := ⟨I, hn, hm, hmo, hf⟩
  have hxn : look m.L m.next = none := by
    cases e : look m.L m.next with
    | none => rfl
    | some s => have := F.fr _ _ e; omega
  have hnw := F.rg (by omega) hw
  have hlt : m.now < m.next ∧ 0 ≤ m.next := by
    obtain ⟨s, hs⟩ := Option.ne_none_iff_exists'.1 hw
    have := F.fr _ _ hs; omega
  obtain ⟨b, q, h⟩ := h
  have c0 := h.box.at (j := 0) rfl
  have c1 := h.box.at (j := 1) rfl
  have c2 := h.box.at (j := 2) rfl
  have HC : Hid (∀ z, Kp w z → Calls Try.prog 31 #[v] z fun e w' => ∃ v', e = .returned v' ∧ Dw 0 v' ds w' ∧ Kp w w') := fun z k => (copies_any ok (hd.kp ok k) hf (by decide)).mono (by rintro e w' ⟨v', rfl, q1, q2⟩; exact ⟨v', rfl, q1.zero, kp_trans k q2⟩)
  obtain ⟨a, n, c, rfl⟩ : ∃ a n c, v = .slice a n c := by obtain ⟨a, c, rfl, _⟩ := hd.form; exact ⟨a, _, c, rfl⟩
  -- what the map's store comes to
  have HS : Hid (∀ (v' : Value) (w3 : World), Dw 0 v' ds w3 → Kp w w3 → ∃ w5 q', (Instr.mapUpdate 70 (.map (some b)) (.int .i64 m.next) (.pointer (some ⟨w3.heap.size, 0, none⟩))).run Try.prog (w3.alloc (.cells #[.int .i64 m.now, .int .i64 (-1), v'] 69)) = .ok () w5 ∧ Tb B w5.heap.size t b q' { m with L := m.L ++ [⟨m.next, m.now, -1, ds⟩] } w5 ∧ Ff TP B w w5) := fun v' w3 d3 k3 => by
    have h4 := (h.kp k3).kp (kp_alloc w3 (.cells #[.int .i64 m.now, .int .i64 (-1), v'] 69))
    obtain ⟨w5, r1, r2, r3, _, _⟩ := h4.add (x := m.next) (fr := m.now) (by omega) (by omega) hxn (d3.kp (okRow _ _) (kp_alloc _ _)) (Lc.new w3 [.int .i64 m.now, .int .i64 (-1), v'] _) (Nat.le_trans hB k3.size) (fun y hy e => by
      obtain ⟨s, hs⟩ := Option.ne_none_iff_exists'.1 hy
      obtain ⟨_, u, hu, _⟩ := (h.kp k3).st y s hs
      have := hu.lt; omega)
    exact ⟨w5, _, r1, r2, (Ff.kp (kp_trans k3 (kp_alloc _ _))).trans r3⟩
  have HH : Hid (Fam m.L m.next ∧ (m.L.map St.seq).Nodup ∧ look m.L m.now ≠ none ∧ (m.L.length : Int) ≤ m.most ∧ look m.L m.next = none ∧ Lc 72 t [.map (some b), .int .i64 m.now, .int .i64 m.next, .int .i64 m.most] w) := ⟨F, hsq, hw, hm, hxn, h.box⟩
  clear h F hsq hw hm hxn hd hf ok I hmo
  go_enter Try.func12, Try.ntmps12
  go_upto_region 1 with fail
  refine wp_region_noPanic ?_
  refine wp_region_held_drew (S := fun z => z.cell? ⟨t, 0, none⟩ = some (.map (some b)) ∧ z.cell? ⟨t, 1, none⟩ = some (.int .i64 m.now) ∧ z.cell? ⟨t, 2, none⟩ = some (.int .i64 m.next)) (by kernel_rfl) (⟨c0, c1, c2⟩) (fun hHeld => ?_)
  refine takeAt 0 (some 5) ?_ rfl rfl (by kernel_rfl) (by kernel_rfl) (by kernel_rfl) (fun _ _ _ h => h) (Or.inl ⟨by rfl, ?_⟩) hHeld ?_
  rotate_left
  · intro w hSw
    go_simp <;> with_reducible rfl
  try simp only [Act.put, List.setIfInBounds_toArray, List.set_cons_zero, List.set_cons_succ]
  refine takeAt 1 (some 6) ?_ rfl rfl (by kernel_rfl) (by kernel_rfl) (by kernel_rfl) (fun _ _ _ h => h) (Or.inl ⟨by rfl, ?_⟩) hHeld ?_
  rotate_left
  · intro w hSw
    go_simp <;> with_reducible rfl
  try simp only [Act.put, List.setIfInBounds_toArray, List.set_cons_zero, List.set_cons_succ]
  refine takeAt 2 (some 7) ?_ rfl rfl (by kernel_rfl) (by kernel_rfl) (by kernel_rfl) (fun _ _ _ h => h) (Or.inl ⟨by rfl, ?_⟩) hHeld ?_
  rotate_left
  · intro w hSw
    go_simp <;> with_reducible rfl
  try simp only [Act.put, List.setIfInBounds_toArray, List.set_cons_zero, List.set_cons_succ]
  refine takeAt 3 (some 8) ?_ rfl rfl (by kernel_rfl) (by kernel_rfl) (by kernel_rfl) (fun _ _ _ h => h) (Or.inl ⟨by rfl, ?_⟩) hHeld ?_
  rotate_left
  · intro w hSw
    go_simp <;> with_reducible rfl
  try simp only [Act.put, List.setIfInBounds_toArray, List.set_cons_zero, List.set_cons_succ]
  refine takeAt 4 (some 9) ?_ rfl rfl (by kernel_rfl) (by kernel_rfl) (by kernel_rfl) (fun _ _ _ h => h) (Or.inl ⟨by rfl, ?_⟩) hHeld ?_
  rotate_left
  · intro w hSw
    go_simp <;> with_reducible rfl
  try simp only [Act.put, List.setIfInBounds_toArray, List.set_cons_zero, List.set_cons_succ]
  refine takeAt 5 (some 10) ?_ rfl rfl (by kernel_rfl) (by kernel_rfl) (by kernel_rfl) (fun _ _ _ h => h) (Or.inl ⟨by rfl, ?_⟩) hHeld ?_
  rotate_left
  · intro w hSw
    go_simp <;> with_reducible rfl
  try simp only [Act.put, List.setIfInBounds_toArray, List.set_cons_zero, List.set_cons_succ]
  refine takeAt 6 (some 11) ?_ rfl rfl (by kernel_rfl) (by kernel_rfl) (by kernel_rfl) (fun _ _ _ h => h) (Or.inl ⟨by rfl, ?_⟩) hHeld ?_
  rotate_left
  · intro w hSw
    go_simp <;> with_reducible rfl
  try simp only [Act.put, List.setIfInBounds_toArray, List.set_cons_zero, List.set_cons_succ]
  refine takeAt 7 (some 12) ?_ rfl rfl (by kernel_rfl) (by kernel_rfl) (by kernel_rfl) (fun _ _ _ h => h) (Or.inl ⟨by rfl, ?_⟩) hHeld ?_
  rotate_left
  · intro w hSw
    go_simp <;> with_reducible rfl
  try simp only [Act.put, List.setIfInBounds_toArray, List.set_cons_zero, List.set_cons_succ]
  refine takeAt 8 (some 13) ?_ rfl rfl (by kernel_rfl) (by kernel_rfl) (by kernel_rfl) (fun _ _ _ h => h) (Or.inl ⟨by rfl, ?_⟩) hHeld ?_
  rotate_left
  · intro w hSw
    go_simp <;> with_reducible rfl
  try simp only [Act.put, List.setIfInBounds_toArray, List.set_cons_zero, List.set_cons_succ]
  refine takeAt 9 (some 14) ?_ rfl rfl (by kernel_rfl) (by kernel_rfl) (by kernel_rfl) (fun _ _ _ h => h) (Or.inl ⟨by rfl, ?_⟩) hHeld ?_
  rotate_left
  · intro w hSw
    go_simp <;> with_reducible rfl
  try simp only [Act.put, List.setIfInBounds_toArray, List.set_cons_zero, List.set_cons_succ]
  refine takeAt 10 (some 15) ?_ rfl rfl (by kernel_rfl) (by kernel_rfl) (by kernel_rfl) (fun _ _ _ h => h) (Or.inl ⟨by rfl, ?_⟩) hHeld ?_
  rotate_left
  · intro w hSw
    go_simp <;> with_reducible rfl
  try simp only [Act.put, List.setIfInBounds_toArray, List.set_cons_zero, List.set_cons_succ]
  refine takeAt 11 (some 16) ?_ rfl rfl (by kernel_rfl) (by kernel_rfl) (by kernel_rfl) (fun _ _ _ h => h) (Or.inl ⟨by rfl, ?_⟩) hHeld ?_
  rotate_left
  · intro w hSw
    go_simp <;> with_reducible rfl
  try simp only [Act.put, List.setIfInBounds_toArray, List.set_cons_zero, List.set_cons_succ]
  refine takeAt 12 (some 17) ?_ rfl rfl (by kernel_rfl) (by kernel_rfl) (by kernel_rfl) (fun _ _ _ h => h) (Or.inl ⟨by rfl, ?_⟩) hHeld ?_
  rotate_left
  · intro w hSw
    go_simp <;> with_reducible rfl
  try simp only [Act.put, List.setIfInBounds_toArray, List.set_cons_zero, List.set_cons_succ]
  refine callAt 13 18 31 (vals := #[.slice a n c]) (by kernel_rfl) rfl rfl rfl rfl (by simp [Act.eval]) Try.func31 (by kernel_rfl) (by kernel_rfl) ?_
  refine Calls.mono (HC.out _ (by first | exact Below.refl _ _ | exact kp_drew _)) ?_
  rintro e w3 ⟨v', rfl, d3, k3⟩
  obtain ⟨w5, q', hr5, t5, f5⟩ := HS.out v' w3 d3 k3
  obtain ⟨a', n', c', rfl⟩ : ∃ a' n' c', v' = .slice a' n' c' := by obtain ⟨a', c', rfl, _⟩ := d3.form; exact ⟨a', _, c', rfl⟩
  have H5 : Hid (Tb B w5.heap.size t b q' { m with L := m.L ++ [⟨m.next, m.now, -1, ds⟩] } w5 ∧ Ff TP B w w5) := ⟨t5, f5⟩
  have K3 : Hid (Kp w w3) := k3
  clear d3 k3 t5 f5 HC HS
  refine ⟨_, rfl, ⟨kp_cell K3.out c0, kp_cell K3.out c1, kp_cell K3.out c2⟩, fun hHeld => ?_⟩
  try simp only [Act.put, List.setIfInBounds_toArray, List.set_cons_zero, List.set_cons_succ]
  refine takeAt 14 (some 19) ?_ rfl rfl (by kernel_rfl) (by kernel_rfl) (by kernel_rfl) (fun _ _ _ h => h) (Or.inl ⟨by rfl, ?_⟩) hHeld ?_
  rotate_left
  · intro w hSw
    go_simp <;> with_reducible rfl
  try simp only [Act.put, List.setIfInBounds_toArray, List.set_cons_zero, List.set_cons_succ]
  refine wpAnyH_ready (rs := [15]) (by kernel_rfl) (by simp) ?_
  refine AllReadyH.cons rfl (fun K hK => ?_) AllReadyH.nil
  go_simp
  refine hK.out _ _ (⟨kp_cell (kp_alloc _ _) hHeld.1, kp_cell (kp_alloc _ _) hHeld.2.1, kp_cell (kp_alloc _ _) hHeld.2.2⟩) (fun hHeld => ?_)
  clear hK K
  try simp only [Act.put, List.setIfInBounds_toArray, List.set_cons_zero, List.set_cons_succ]
  refine wpAnyH_ready (rs := [16]) (by kernel_rfl) (by simp) ?_
  refine AllReadyH.cons rfl (fun K hK => ?_) AllReadyH.nil
  go_simp
  refine hK.out _ _ (⟨H5.out.1.box.at (j := 0) rfl, H5.out.1.box.at (j := 1) rfl, H5.out.1.box.at (j := 2) rfl⟩) (fun hHeld => ?_)
  clear hK K
  try simp only [Act.put, List.setIfInBounds_toArray, List.set_cons_zero, List.set_cons_succ]
  clear hr5 c0 c1 c2
  refine wpAnyH_done (by kernel_rfl) ?_ _
  refine NoPanic.normal ?_
  go_upto_region 2 with fail
  have f2 : Hid (look (m.L ++ [⟨m.next, m.now, -1, ds⟩]) m.now ≠ none ∧ m.now ≠ m.next) := ⟨by rw [look_snoc HH.out.2.2.2.2.1, if_neg (by omega)]; exact HH.out.2.2.1, by omega⟩
  obtain ⟨s0, hs0⟩ := Option.ne_none_iff_exists'.1 f2.out.1
  have c0 := H5.out.1.box.at (j := 0) rfl
  have c1 := H5.out.1.box.at (j := 1) rfl
  have c2 := H5.out.1.box.at (j := 2) rfl
  have hlk := H5.out.1.get (by omega) (by omega) hs0
  have hl1 := hlk w5 (Below.refl _ _)
  have hl2 := hlk w5.drew (kp_drew _)
  obtain ⟨_, u0, hu0, _⟩ := H5.out.1.st _ _ hs0
  have g1 := hu0.fz 1
  have g0 := hu0.at (j := 1) rfl
  obtain ⟨W6, hW6⟩ : ∃ W6, (w5.setCell ⟨q' m.now, 1, none⟩ (.int .i64 m.next)).drew = W6 := ⟨_, rfl⟩
  have H6 : Hid (Tb B w5.heap.size t b q' { m with L := setOn m.L m.now m.next ++ [⟨m.next, m.now, -1, ds⟩] } W6 ∧ Ff TP B w W6) := by
    obtain ⟨r1, r2⟩ := H5.out.1.on f2.out.1 m.next
    rw [← hW6]
    refine ⟨?_, (H5.out.2.trans r2).trans (Ff.kp (kp_drew _))⟩
    have := r1.kp (kp_drew _)
    rw [on_snoc f2.out.2] at this
    exact this
  have HW6 : Hid (_ = W6) := hW6
  clear hlk hs0 hu0 hW6
  go_region
  rw [HW6.out]
  clear HW6 c0 c1 c2 hl1 hl2 g0 g1
  have c2 := H6.out.1.box.at (j := 2) rfl
  have g1 := H6.out.1.box.fz 1
  have c1 := H6.out.1.box.at (j := 1) rfl
  have g2 := H6.out.1.box.fz 2
  have H7 : Hid (Tw B ((W6.setCell ⟨t, 1, none⟩ (.int .i64 m.next)).setCell ⟨t, 2, none⟩ (.int .i64 (m.next + 1))).heap.size t (addT m ds) ((W6.setCell ⟨t, 1, none⟩ (.int .i64 m.next)).setCell ⟨t, 2, none⟩ (.int .i64 (m.next + 1))) ∧ Ff TP B w ((W6.setCell ⟨t, 1, none⟩ (.int .i64 m.next)).setCell ⟨t, 2, none⟩ (.int .i64 (m.next + 1)))) := by
    obtain ⟨r1, r2⟩ := H6.out.1.now m.next
    obtain ⟨r3, r4⟩ := r1.nxt (m.next + 1)
    exact ⟨Tw.sized ⟨b, q', r3⟩, (H6.out.2.trans r2).trans r4⟩
  go_wp2_with fail
  generalize hW7 : (W6.setCell ⟨t, 1, none⟩ (.int .i64 m.next)).setCell ⟨t, 2, none⟩ (.int .i64 (m.next + 1)) = W7 at H7 ⊢
  have IA : Hid (Inw (addT m ds)) := HI.out.1.add HI.out.2.2.2.2
  have HA : Hid ((addT m ds).L.length = m.L.length + 1) := by
    show (setOn m.L m.now m.next ++ [_]).length = _
    rw [List.length_append, setOn_len]; rfl
  clear hW7 c1 c2 g1 g2
  have H8 : Hid (Loo B t m ds w W7) := .inl H7.out
  go_loopw [] (fun wr => Hid (Loo B t m ds w wr)) (fun wr => cntOf t wr)
  case atStart => exact H8
  case round =>
    clear H8 H7
    rcases hrel.out with ⟨ht, hf⟩ | ⟨ho, ht, hf⟩
    · obtain ⟨b7, q7, t7⟩ := ht
      have c0 := t7.box.at (j := 0) rfl
      have c1' : wr.cell? ⟨t, 1, none⟩ = some (.int .i64 m.next) := t7.box.at (j := 1) rfl
      have c3 : wr.cell? ⟨t, 3, none⟩ = some (.int .i64 m.most) := t7.box.at (j := 3) rfl
      have hln := fun ty k => t7.len IA.out.inv.nodup ty (wr.drewN k) (kp_drewN _ k)
      have HT7 : Hid (Tb B wr.heap.size t b7 q7 (addT m ds) wr ∧ Ff TP B w wr) := ⟨t7, hf⟩
      clear t7 hf hrel
      by_cases hov : m.most < ((addT m ds).L.length : Int)
      · have d1 : decide (((addT m ds).L.length : Int) > m.most) = true := decide_eq_true hov
        have d2 : decide (m.most < ((addT m ds).L.length : Int)) = true := decide_eq_true hov
        have HOV : Hid (m.most < ((addT m ds).L.length : Int)) := hov
        have HG : Hid (∀ k, Calls Try.prog 32 #[.pointer (some ⟨t, 0, none⟩)] (wr.drewN k) fun e w' => e = .returned (.tuple #[]) ∧ Loo B t m ds w w' ∧ cntOf t w' < cntOf t wr) := fun k => by
          have h1 := HA.out
          have h2 := HI.out.2.2.2.1
          have h3 := HI.out.2.2.1
          have hTk : Tb B wr.heap.size t b7 q7 (addT m ds) (wr.drewN k) := HT7.out.1.kp (kp_drewN _ _)
          refine (letGo_any ⟨b7, q7, hTk⟩ IA.out (by have := HI.out.2.1; show m.next + 1 ≤ 10000; omega) (by omega) (by omega)).mono ?_
          rintro e w' ⟨rfl, r1, r2⟩
          refine ⟨rfl, .inr ⟨HOV.out, r1.sized, (HT7.out.2.trans (Ff.kp (kp_drewN _ _))).trans r2⟩, ?_⟩
          rw [cnt_eq ⟨b7, q7, HT7.out.1⟩ IA.out.inv.nodup, cnt_eq r1 (IA.out.ev (by omega)).inv.nodup]
          have := ev_len IA.out (by omega)
          omega
        clear HT7 hov
        generalize (addT m ds).L.length = K7 at hln d1 d2
        go_wp2_with fail
        go_quiet (fail)
        go_wp2_with fail
        refine Calls.mono (HG.out _) ?_
        rintro e w9 ⟨rfl, r1, r2⟩
        have H9 : Hid (Loo B t m ds w w9) := r1
        have HM9 : Hid (cntOf t w9 < cntOf t wr) := r2
        clear HG r1 r2
        go_wp2_with fail
        go_roundw
        case rel => exact H9
        case measure => exact HM9.out
      · have d1 : decide (((addT m ds).L.length : Int) > m.most) = false := decide_eq_false hov
        have d2 : decide (m.most < ((addT m ds).L.length : Int)) = false := decide_eq_false hov
        have HX : Hid (∀ k, Tw B (wr.drewN k).heap.size t (addE m ds) (wr.drewN k) ∧ Ff TP B w (wr.drewN k)) := fun k => by
          have e1 : addE m ds = addT m ds := by unfold addE; rw [if_neg hov]
          rw [e1]
          exact ⟨(Tw.kp ⟨b7, q7, HT7.out.1⟩ (kp_drewN _ _)).sized, HT7.out.2.trans (Ff.kp (kp_drewN _ _))⟩
        clear HT7 hov
        generalize (addT m ds).L.length = K7 at hln d1 d2
        go_wp2_with fail
        go_quiet (fail)
        go_wp2_with fail
        go_ret
        exact ⟨rfl, HX.out _⟩
    · obtain ⟨b7, q7, t7⟩ := ht
      have hpn := ev_now (addT m ds)
      have IE : Hid (Inw (evT (addT m ds))) := IA.out.ev (by have := HA.out; have := HI.out.2.2.2.1; omega)
      have c0 := t7.box.at (j := 0) rfl
      have c1' : wr.cell? ⟨t, 1, none⟩ = some (.int .i64 m.next) := by have := t7.box.at (j := 1) rfl; rw [hpn.1] at this; exact this
      have c3 : wr.cell? ⟨t, 3, none⟩ = some (.int .i64 m.most) := by have := t7.box.at (j := 3) rfl; rw [hpn.2.2] at this; exact this
      have hln := fun ty k => t7.len IE.out.inv.nodup ty (wr.drewN k) (kp_drewN _ k)
      have hno : ¬ m.most < ((evT (addT m ds)).L.length : Int) := by
        have := ev_len IA.out (by have := HA.out; have := HI.out.2.2.2.1; omega)
        have := HA.out
        have := HI.out.2.2.1
        omega
      have d1 : decide (((evT (addT m ds)).L.length : Int) > m.most) = false := decide_eq_false hno
      have d2 : decide (m.most < ((evT (addT m ds)).L.length : Int)) = false := decide_eq_false hno
      have HX : Hid (∀ k, Tw B (wr.drewN k).heap.size t (addE m ds) (wr.drewN k) ∧ Ff TP B w (wr.drewN k)) := fun k => by
        have e1 : addE m ds = evT (addT m ds) := by unfold addE; rw [if_pos ho]
        rw [e1]
        exact ⟨(Tw.kp ⟨b7, q7, t7⟩ (kp_drewN _ _)).sized, hf.trans (Ff.kp (kp_drewN _ _))⟩
      clear t7 hf ho hrel hno hpn
      generalize (evT (addT m ds)).L.length = K7 at hln d1 d2
      go_wp2_with fail
      go_quiet (fail)
      go_wp2_with fail
      go_ret
      exact ⟨rfl, HX.out _⟩
end
end Go.Proofs.Ytbkhhgaihhbhjaa
/- Undo, Redo, Go, Earlier, Later: from a state's text to another one's. -/
namespace Go.Proofs.Ytbkhhgaihhbhjaa
open Go.ChangeShapes Go.WideShapes Go.ChangeAt Go.RowKit Go.Maps Go.MapKept
set_option linter.unusedVariables false
set_option linter.unusedSimpArgs false
set_option maxRecDepth 100000
/-- Each state is made by one change at most, and that is small. -/
def Sml (L : List St) : Prop := ∀ x s, look L x = some s → s.by_.length ≤ 1 ∧ ∀ d ∈ s.by_, d.old.length ≤ 2 ∧ d.nw.length ≤ 2000
theorem wN_app (a b : List Dl) : wN (a ++ b) = wN a + wN b := by simp [wN]
section
variable {L L' : List St} {m m' : Tr} {x y : Int} {l : List Int} {s : St} {ds : List Dl}
theorem Sml.mono (h : Sml L) (hm : ∀ x s', look L' x = some s' → s'.by_ = [] ∨ ∃ s, look L x = some s ∧ s'.by_ = s.by_) : Sml L' := fun x s' hx => by
  rcases hm x s' hx with e | ⟨s, h1, h2⟩
  · rw [e]; exact ⟨by simp, by simp⟩
  · rw [h2]; exact h x s h1
theorem Sml.setOn (h : Sml L) (a b : Int) : Sml (Go.Proofs.Ytbkhhgaihhbhjaa.setOn L a b) := h.mono fun x s' hx => by
  obtain ⟨s0, q1, _, q3, _⟩ := fr_on' L a b x s' hx
  exact .inr ⟨s0, q1, q3.symm⟩
theorem Sml.led {top : Int} : ∀ (l : List Int) (L : List St), Sml L → Sml (Go.Proofs.Ytbkhhgaihhbhjaa.led L l top)
  | [], _, h => h
  | x :: l, L, h => Sml.led l _ (h.setOn _ _)
theorem sml_wN (h : ds.length ≤ 1 ∧ ∀ d ∈ ds, d.old.length ≤ 2 ∧ d.nw.length ≤ 2000) : wN ds ≤ 2000 ∧ wN (turnD ds) ≤ 2 := by
  match ds, h with
  | [], _ => exact ⟨by simp [wN], by simp [wN, turnD]⟩
  | [d], h =>
    have := h.2 d (by simp)
    exact ⟨by simp [wN]; omega, by simp [wN, turnD, tn]; omega⟩
  | _ :: _ :: _, h => simp at h
theorem Sml.byOf (h : Sml L) (x : Int) : (Go.Proofs.Ytbkhhgaihhbhjaa.byOf L x).length ≤ 1 ∧ ∀ d ∈ Go.Proofs.Ytbkhhgaihhbhjaa.byOf L x, d.old.length ≤ 2 ∧ d.nw.length ≤ 2000 := by
  unfold Go.Proofs.Ytbkhhgaihhbhjaa.byOf
  cases e : look L x with
  | none => exact ⟨by simp, by simp⟩
  | some s => exact h x s e
theorem Sml.ups (h : Sml L) (l : List Int) : wN (upsD L l) ≤ 2 * l.length ∧ (upsD L l).length ≤ l.length := by
  induction l with
  | nil => simp [upsD, wN]
  | cons x l ih =>
    have e : upsD L (x :: l) = turnD (Go.Proofs.Ytbkhhgaihhbhjaa.byOf L x) ++ upsD L l := by simp [upsD]
    have h1 := h.byOf x
    have h2 := (sml_wN h1).2
    rw [e, wN_app, List.length_append, turnD_len, List.length_cons]
    omega
theorem Sml.dn (h : Sml L) (l : List Int) : wN (dnD L l) ≤ 2000 * l.length ∧ (dnD L l).length ≤ l.length := by
  induction l with
  | nil => simp [dnD, wN]
  | cons x l ih =>
    have h1 := h.byOf x
    have h2 := (sml_wN h1).1
    rw [dnD_cons, wN_app, List.length_append, List.length_cons]
    omega
theorem Sml.add (h : Sml m.L) (I : Inw m) (hd : ds.length ≤ 1 ∧ ∀ d ∈ ds, d.old.length ≤ 2 ∧ d.nw.length ≤ 2000) : Sml (addT m ds).L := fun x s hx => by
  rw [addT_look I.inv] at hx
  by_cases e : x = m.next
  · rw [if_pos e] at hx; cases hx; exact hd
  · rw [if_neg e] at hx
    obtain ⟨s0, q1, q2⟩ := Option.map_eq_some_iff.1 hx
    have hs : s.by_ = s0.by_ := by rw [← q2]; split <;> rfl
    rw [hs]; exact h x s0 q1
theorem Sml.ev (h : Sml m.L) (I : Inw m) (h2 : 2 ≤ m.L.length) : Sml (evT m).L := by
  cases hfd : m.L.find? (bareP m) with
  | some s =>
    obtain ⟨h1, h3, h4⟩ := bare_some hfd
    have hx := mem_look I.inv.sq h1
    have hf := bare_fr I.inv.fam I.onk I.inv.nw hx h3 h4
    have hxf := I.inv.fam.fr _ _ hx
    rw [ev_some hfd]
    refine h.mono fun y s' hy => .inr ?_
    have hy' : look (cutT m.L s.seq s.fr) y = some s' := hy
    rw [look_cut (by omega)] at hy'
    split at hy'
    · cases hy'
    · obtain ⟨s0, q1, q2⟩ := Option.map_eq_some_iff.1 hy'
      refine ⟨s0, q1, ?_⟩
      rw [← q2]; split <;> rfl
  | none =>
    obtain ⟨r, M, hL, hM⟩ := cons_of h2
    rw [ev_none hfd]
    refine h.mono fun y s' hy => ?_
    have hy' : look (rootT m.L) y = some s' := hy
    have hs := I.inv.sq
    rw [hL] at hy' hs
    rw [look_root r M hs] at hy'
    split at hy'
    · cases hy'
    · obtain ⟨s0, q1, q2⟩ := Option.map_eq_some_iff.1 hy'
      rw [← q2]
      unfold unroot
      split
      · exact .inl rfl
      · exact .inr ⟨s0, by rw [hL]; exact q1, rfl⟩
theorem Sml.addE (h : Sml m.L) (I : Inw m) (hf : Few 2000 ds) (hmo : 1 ≤ m.most) (hd : ds.length ≤ 1 ∧ ∀ d ∈ ds, d.old.length ≤ 2 ∧ d.nw.length ≤ 2000) : Sml (Go.Proofs.Ytbkhhgaihhbhjaa.addE m ds).L := by
  unfold Go.Proofs.Ytbkhhgaihhbhjaa.addE
  split
  · exact (h.add I hd).ev (I.add hf) (by omega)
  · exact h.add I hd
end
/-- A tree whose states have these texts. -/
structure StT (B C t : Nat) (m : Tr) (T : Int → List ByteArray) (w : World) : Prop where
  tw : Tw B C t m w
  hC : C ≤ w.heap.size
  hB : B ≤ w.heap.size
  inw : Inw m
  mo : 1 ≤ m.most ∧ m.most ≤ 200
  ln : (m.L.length : Int) ≤ m.most
  nx : m.next ≤ 200
  tx : TxI m.L T
  sm : Sml m.L
/-- What a call that goes to another state tells. -/
def Trv (B C t : Nat) (m : Tr) (T : Int → List ByteArray) (w : World) (v : Value) (err : Int) (w' : World) : Prop :=
  0 ≤ err ∧ err < 1000 ∧ Ff TP B w w' ∧ ((err ≠ 0 ∧ v = .slice none 0 0 ∧ StT B C t m T w') ∨
    (err = 0 ∧ ∃ ds m', Dw 0 v ds w' ∧ StT B C t m' T w' ∧ apps (T m.now) ds = some (T m'.now) ∧ m'.next = m.next ∧ m'.most = m.most ∧ wN ds ≤ 1000000 ∧ ds.length ≤ 1000000))
section
variable {B C t : Nat} {m m' : Tr} {T : Int → List ByteArray} {w w1 : World} {v : Value} {err : Int} {ds : List Dl}
theorem StT.kp (h : StT B C t m T w) (k : Kp w w1) : StT B C t m T w1 := ⟨h.tw.kp k, Nat.le_trans h.hC k.size, Nat.le_trans h.hB k.size, h.inw, h.mo, h.ln, h.nx, h.tx, h.sm⟩
theorem trv_no (h : StT B C t m T w) (k : Kp w w1) (he : 0 ≤ err ∧ err < 1000 ∧ err ≠ 0) : Trv B C t m T w (.slice none 0 0) err w1 := ⟨he.1, he.2.1, Ff.kp k, .inl ⟨he.2.2, rfl, h.kp k⟩⟩
theorem trv_yes (h : StT B C t m T w) (q : Gone B C t w v ds m' w1) (I : Inw m') (hx : TxI m'.L T) (hs : Sml m'.L) (ha : apps (T m.now) ds = some (T m'.now)) (h1 : m'.next = m.next) (h2 : m'.most = m.most) (h3 : m'.L.length = m.L.length) (h4 : wN ds ≤ 1000000) (h5 : ds.length ≤ 1000000) : Trv B C t m T w v 0 w1 := by
  obtain ⟨q1, q2, q3⟩ := q
  have hz := q3.size
  exact ⟨by decide, by decide, q3, .inr ⟨rfl, ds, m', q1.zero, ⟨q2, Nat.le_trans h.hC hz, Nat.le_trans h.hB hz, I, by rw [h2]; exact h.mo, by rw [h2, h3]; exact h.ln, by rw [h1]; exact h.nx, hx, hs⟩, ha, h1, h2, h4, h5⟩⟩
theorem trv_undo (h : StT B C t m T w) : Calls Try.prog 17 #[.pointer (some ⟨t, 0, none⟩)] w fun e w1 => ∃ v err, e = .returned (.tuple #[v, .int .u16 err]) ∧ Trv B C t m T w v err w1 := by
  have I := h.inw
  have F := I.inv.fam
  have hn := h.nx
  obtain ⟨s, hs⟩ := Option.ne_none_iff_exists'.1 I.inv.nw
  have hrg := rg_of (F.rg (by omega) I.inv.nw)
  by_cases he : s.fr = -1
  · refine (undo_end h.tw hrg hs he).mono ?_
    rintro e w' ⟨rfl, k, rfl⟩
    exact ⟨_, _, rfl, trv_no h (kp_drewN _ _) (by decide)⟩
  · refine (undo_any h.tw hrg hs he (F.few _ _ hs) (by decide)).mono ?_
    rintro e w' ⟨v, rfl, q⟩
    have hb := h.sm _ _ hs
    have hw := sml_wN hb
    exact ⟨_, _, rfl, trv_yes h q (I.up hs he) h.tx h.sm (apps_turn (h.tx _ _ hs he)) rfl rfl rfl (by omega) (by rw [turnD_len]; omega)⟩
theorem trv_redo (h : StT B C t m T w) : Calls Try.prog 19 #[.pointer (some ⟨t, 0, none⟩)] w fun e w1 => ∃ v err, e = .returned (.tuple #[v, .int .u16 err]) ∧ Trv B C t m T w v err w1 := by
  have I := h.inw
  have F := I.inv.fam
  have hn := h.nx
  obtain ⟨s, hs⟩ := Option.ne_none_iff_exists'.1 I.inv.nw
  have hrg := rg_of (F.rg (by omega) I.inv.nw)
  by_cases he : s.on = -1
  · refine (redo_end h.tw hrg hs he).mono ?_
    rintro e w' ⟨rfl, k, rfl⟩
    exact ⟨_, _, rfl, trv_no h (kp_drewN _ _) (by decide)⟩
  · obtain ⟨s', hs', hf'⟩ := F.on _ _ hs he
    refine (redo_any h.tw hrg hs he (rg_of (F.rg (by omega) (by rw [hs']; simp))) hs' (F.few _ _ hs') (by decide)).mono ?_
    rintro e w' ⟨v, rfl, q⟩
    have hb := h.sm _ _ hs'
    have hw := sml_wN hb
    have hlt := I.inv.lt
    have hap := h.tx _ _ hs' (by rw [hf']; omega)
    rw [hf'] at hap
    exact ⟨_, _, rfl, trv_yes h q (I.down hs he) h.tx h.sm hap rfl rfl rfl (by omega) (by omega)⟩
theorem trv_went (h : StT B C t m T w) {seq : Int} (hs : look m.L seq ≠ none) (q : Went B C t w v m seq w1) : Trv B C t m T w v 0 w1 := by
  obtain ⟨top, l1, l2, hm, q⟩ := q
  have F := h.inw.inv.fam
  have u1 := h.sm.ups l1
  have u2 := h.sm.dn l2
  have x1 := F.up_len hm.u1
  have x2 := F.up_len hm.u2
  obtain ⟨sn, hsn⟩ := Option.ne_none_iff_exists'.1 h.inw.inv.nw
  obtain ⟨ss, hss⟩ := Option.ne_none_iff_exists'.1 hs
  obtain ⟨st, hst⟩ := Option.ne_none_iff_exists'.1 (F.up_there hm.u1 h.inw.inv.nw)
  have y1 := F.fr _ _ hsn
  have y2 := F.fr _ _ hss
  have y3 := F.fr _ _ hst
  have hn := h.nx
  refine trv_yes h q (h.inw.go hm hs) (h.tx.led _ _) (h.sm.led _ _) (h.tx.went hm) rfl rfl (led_len _ _ _) ?_ ?_
  · rw [wN_app]; omega
  · rw [List.length_append]; omega
theorem trv_go (h : StT B C t m T w) {seq : Int} (hr : Rg seq) : Calls Try.prog 18 #[.pointer (some ⟨t, 0, none⟩), .int .i64 seq] w fun e w1 => ∃ v err, e = .returned (.tuple #[v, .int .u16 err]) ∧ Trv B C t m T w v err w1 := by
  have I := h.inw
  have hn := h.nx
  by_cases hs : look m.L seq = none
  · refine (go_none h.tw hr hs).mono ?_
    rintro e w' ⟨rfl, rfl⟩
    exact ⟨_, _, rfl, trv_no h (Below.refl _ _) (by decide)⟩
  · refine (go_any h.tw h.hC I.inv.fam (by omega) I.inv.nw hs).mono ?_
    rintro e w' ⟨v, rfl, q⟩
    exact ⟨_, _, rfl, trv_went h hs q⟩
theorem trv_led (h : StT B C t m T w) {seq : Int} (he : 0 ≤ err ∧ err < 1000) (hs : err = 0 → look m.L seq ≠ none) (q : Led B C t w m err seq v w1) : Trv B C t m T w v err w1 := by
  rcases q with ⟨h1, rfl, k⟩ | ⟨rfl, q⟩
  · exact trv_no h k ⟨he.1, he.2, h1⟩
  · exact trv_went h (hs rfl) q
theorem trv_later (h : StT B C t m T w) (n : Int) : Calls Try.prog 15 #[.pointer (some ⟨t, 0, none⟩), .int .i64 n] w fun e w1 => ∃ v err, e = .returned (.tuple #[v, .int .u16 err]) ∧ Trv B C t m T w v err w1 := by
  have I := h.inw
  have hn := h.nx
  have hfw := h.ln
  have hmo := h.mo
  obtain ⟨k, hk⟩ := idx_of I.inv.nw
  have hkl := (List.getElem?_eq_some_iff.1 hk).1
  rw [List.length_map] at hkl
  obtain ⟨err, seq, he, hs, hc⟩ : ∃ err seq : Int, (0 ≤ err ∧ err < 1000) ∧ (err = 0 → look m.L seq ≠ none) ∧ ((n < 1 ∧ err = 1) ∨ (1 ≤ n ∧ k + 1 = m.L.length ∧ err = 121) ∨ (1 ≤ n ∧ err = 0 ∧ ∃ j : Nat, min n ((m.L.length - (k + 1) : Nat) : Int) = (j : Int) + 1 ∧ (m.L.map St.seq)[k + 1 + j]? = some seq)) := by
    by_cases h1 : n < 1
    · exact ⟨1, 0, by decide, fun q => absurd q (by decide), .inl ⟨h1, rfl⟩⟩
    · by_cases h2 : k + 1 = m.L.length
      · exact ⟨121, 0, by decide, fun q => absurd q (by decide), .inr (.inl ⟨by omega, h2, rfl⟩)⟩
      · obtain ⟨j, hj⟩ : ∃ j : Nat, min n ((m.L.length - (k + 1) : Nat) : Int) = (j : Int) + 1 := ⟨(min n ((m.L.length - (k + 1) : Nat) : Int) - 1).toNat, by omega⟩
        have hlt : k + 1 + j < (m.L.map St.seq).length := by rw [List.length_map]; omega
        exact ⟨0, (m.L.map St.seq)[k + 1 + j], by decide, fun _ => look_ne.2 (List.getElem_mem hlt), .inr (.inr ⟨by omega, rfl, j, hj, List.getElem?_eq_getElem hlt⟩)⟩
  refine (later_any h.tw h.hC I.inv (by omega) (by omega) hk hc).mono ?_
  rintro e w' ⟨v, rfl, q⟩
  exact ⟨_, _, rfl, trv_led h he hs q⟩
theorem trv_earlier (h : StT B C t m T w) (n : Int) : Calls Try.prog 13 #[.pointer (some ⟨t, 0, none⟩), .int .i64 n] w fun e w1 => ∃ v err, e = .returned (.tuple #[v, .int .u16 err]) ∧ Trv B C t m T w v err w1 := by
  have I := h.inw
  have hn := h.nx
  have hfw := h.ln
  have hmo := h.mo
  obtain ⟨k, hk⟩ := idx_of I.inv.nw
  have hkl := (List.getElem?_eq_some_iff.1 hk).1
  rw [List.length_map] at hkl
  have hrev : ∀ i : Nat, i < m.L.length → (m.L.map St.seq).reverse[m.L.length - 1 - i]? = (m.L.map St.seq)[i]? := fun i hi => by
    rw [List.getElem?_reverse (by rw [List.length_map]; omega), List.length_map]
    congr 1; omega
  have hk' : (m.L.map St.seq).reverse[m.L.length - 1 - k]? = some m.now := by rw [hrev k hkl, hk]
  obtain ⟨err, seq, he, hs, hc⟩ : ∃ err seq : Int, (0 ≤ err ∧ err < 1000) ∧ (err = 0 → look m.L seq ≠ none) ∧ ((n < 1 ∧ err = 1) ∨ (1 ≤ n ∧ k = 0 ∧ err = 121) ∨ (1 ≤ n ∧ err = 0 ∧ ∃ j : Nat, min n (k : Int) = (j : Int) + 1 ∧ (m.L.map St.seq)[k - (j + 1)]? = some seq)) := by
    by_cases h1 : n < 1
    · exact ⟨1, 0, by decide, fun q => absurd q (by decide), .inl ⟨h1, rfl⟩⟩
    · by_cases h2 : k = 0
      · exact ⟨121, 0, by decide, fun q => absurd q (by decide), .inr (.inl ⟨by omega, h2, rfl⟩)⟩
      · obtain ⟨j, hj⟩ : ∃ j : Nat, min n (k : Int) = (j : Int) + 1 := ⟨(min n (k : Int) - 1).toNat, by omega⟩
        have hlt : k - (j + 1) < (m.L.map St.seq).length := by rw [List.length_map]; omega
        exact ⟨0, (m.L.map St.seq)[k - (j + 1)], by decide, fun _ => look_ne.2 (List.getElem_mem hlt), .inr (.inr ⟨by omega, rfl, j, hj, List.getElem?_eq_getElem hlt⟩)⟩
  have hc' : (n < 1 ∧ err = 1) ∨ (1 ≤ n ∧ m.L.length - 1 - k + 1 = m.L.length ∧ err = 121) ∨ (1 ≤ n ∧ err = 0 ∧ ∃ j : Nat, min n ((m.L.length - (m.L.length - 1 - k + 1) : Nat) : Int) = (j : Int) + 1 ∧ (m.L.map St.seq).reverse[m.L.length - 1 - k + 1 + j]? = some seq) := by
    rcases hc with q | ⟨q1, q2, q3⟩ | ⟨q1, q2, j, q3, q4⟩
    · exact .inl q
    · exact .inr (.inl ⟨q1, by omega, q3⟩)
    · refine .inr (.inr ⟨q1, q2, j, ?_, ?_⟩)
      · rw [show m.L.length - (m.L.length - 1 - k + 1) = k by omega]; exact q3
      · rw [← q4, ← hrev (k - (j + 1)) (by omega)]
        congr 1; omega
  refine (earlier_any h.tw h.hC I.inv (by omega) (by omega) hk' hc').mono ?_
  rintro e w' ⟨v, rfl, q⟩
  exact ⟨_, _, rfl, trv_led h he hs q⟩
end
end Go.Proofs.Ytbkhhgaihhbhjaa
/- The document's Go. -/
namespace Go.Proofs.Ytbkhhgaihhbhjaa
open Go.ChangeShapes Go.WideShapes Go.ChangeAt Go.RowKit Go.Maps Go.MapKept
set_option linter.unusedVariables false
set_option linter.unusedSimpArgs false
set_option maxRecDepth 100000
section
variable {B C r : Nat} {m : Tr} {w w1 : World}
/-- Changes that lie from C on have more behind them. -/
theorem Rw.app (h : Rw B C r m w) {v : Value} {n : Nat} {xs : List Value} (hr : w.ownsRow C 35 3 v n xs) (hg : w.grownBy w1 v.ownBlock) : Rw B C r m w1 := by
  obtain ⟨u, vs, h⟩ := h
  have f := fr_grown hg
  have typ : ∀ k, some k = v.ownBlock → C ≤ k ∧ ∃ cur, w.heap[k]? = some (.cells cur 35 (0, 0)) := fun k e => by
    rcases hr.2 with ⟨z, _⟩ | ⟨g, cap, cur, z, hb, hg, _⟩
    · rw [z] at e; cases e
    · rw [z] at e; simp only [Value.ownBlock, Option.some.injEq] at e; subst e; exact ⟨hb, cur, hg⟩
  refine ⟨u, vs, h.lr, h.box.fr f fun e => ?_, row_fr h.row f fun j hj e => row_row hr h.row (by decide) j e.symm hj, h.bys.1, fun i s u' h1 h2 => ?_⟩
  · obtain ⟨_, cur, q⟩ := typ _ e
    have := h.box; unfold Lc at this; rw [this] at q; cases q
  · obtain ⟨⟨cs, r1, r2⟩, h4⟩ := h.bys.2 i s u' h1 h2
    refine ⟨⟨cs, row_fr r1 f fun j hj e => ?_, r2.imp fun u' ls rr => row_fr rr f fun j hj e => row_row hr rr (by decide) j e.symm hj⟩, h4⟩
    have := h4 j hj; have := (typ j e).1; omega
def nowR (r : Nat) (w : World) : Nat := match w.cell? ⟨r, 2, none⟩ with
  | some v => (intOf v).toNat
  | none => 0
theorem nowR_eq (h : Rw B C r m w) : nowR r w = m.now.toNat := by
  obtain ⟨v, vs, h⟩ := h
  unfold nowR
  rw [h.box.at (j := 2) rfl]
  rfl
theorem in_above {L : List St} {next seq rt x : Int} {l0 l : List Int} (h0 : Up L seq l0 rt) (h : Up L seq l x) : x ∈ l0 ++ [rt] ∨ ∃ k, Up L rt k x := by
  rcases h0.split h with ⟨k, q, _⟩ | ⟨k, q, e⟩
  · exact .inr ⟨k, q⟩
  · cases q with
    | nil => exact .inl (by simp)
    | cons a1 a2 a3 => exact .inl (by rw [e]; simp)
theorem of_above {L : List St} {seq rt x : Int} {l0 : List Int} (h0 : Up L seq l0 rt) (hx : x ∈ l0 ++ [rt]) : ∃ l2 k, Up L seq l2 x ∧ l0 ++ [rt] = l2 ++ x :: k := by
  rcases List.mem_append.1 hx with hx | hx
  · obtain ⟨k, k', q1, q2, e⟩ := h0.at_ hx
    exact ⟨k, k' ++ [rt], q1, by rw [e]; simp⟩
  · simp only [List.mem_singleton] at hx
    subst hx
    exact ⟨l0, [], h0, rfl⟩
set_option maxHeartbeats 4000000 in
theorem rgo_none (h : Rw B C r m w) (hl : m.L.length ≤ 250) (I : Inv m) {seq : Int} (hs : look m.L seq = none) :
    Calls Try.prog 43 #[.pointer (some ⟨r, 0, none⟩), .int .i64 seq] w fun e w' => e = .returned (.tuple #[.slice none 0 0, .int .i64 120]) ∧ w' = w := by
  have HF : Hid _ := find_none h hl hs
  by_cases q : seq < 0
  · have d1 : decide (seq < 0) = true := decide_eq_true q
    clear h hs HF
    go_enter Try.func43, Try.ntmps43
    go_wp2_with fail
    go_ret2
    exact ⟨rfl, rfl⟩
  · have d1 : decide (seq < 0) = false := decide_eq_false q
    have d2 : decide ((-1 : Int) < 0) = true := by decide
    clear h hs
    go_enter Try.func43, Try.ntmps43
    go_wp2_with fail
    refine Calls.mono HF.out ?_
    rintro e w1 ⟨rfl, rfl⟩
    clear HF
    go_wp2_with fail
    go_ret2
    exact ⟨rfl, rfl⟩
/-- Where a round of the way up stands. -/
def RgU (B C r : Nat) (w : World) (m : Tr) (A : List Int) (va v : Value) (wr : World) : Prop :=
  ∃ y la, Up m.L m.now la y ∧ (∀ x ∈ la, x ∉ A) ∧ look m.L y ≠ none ∧ Dw w.heap.size v (upsD m.L la) wr ∧ Rw B C r { m with now := y } wr ∧ Ff TQ B w wr ∧ Ir w.heap.size va A wr
/-- Where a round of the way down stands: j states are still to come. -/
def RgD (B C r : Nat) (w : World) (m : Tr) (A : List Int) (top : Int) (l2 : List Int) (us : List Dl) (va v : Value) (j : Nat) (wr : World) : Prop :=
  Dw w.heap.size v (us ++ dnD m.L (l2.drop j)) wr ∧ Rw B C r { m with L := dled m.L (l2.drop j) top, now := (l2.drop j).headD top } wr ∧ Ff TQ B w wr ∧ Ir w.heap.size va A wr
def WentR (B C r : Nat) (w : World) (v : Value) (m : Tr) (seq : Int) (w' : World) : Prop :=
  ∃ top l1 l2, Meet m.L m.now seq top l1 l2 ∧ GoneR B C r w v (upsD m.L l1 ++ dnD m.L l2) { m with L := led m.L l2 top, now := seq } w'
theorem Ir.ffq {D B' : Nat} {v : Value} {ss : List Int} (h : Ir D v ss w) (f : Ff TQ B' w w1) : Ir D v ss w1 := row_ff h f (tq_of (by decide) (by decide))
theorem Ir.app {D D' n : Nat} {v u : Value} {ss : List Int} {xs : List Value} (h : Ir D v ss w) (hr : w.ownsRow D' 35 3 u n xs) (hg : w.grownBy w1 u.ownBlock) : Ir D v ss w1 := row_fr h (fr_grown hg) fun j hj e => row_row hr h (by decide) j e.symm hj
set_option maxHeartbeats 32000000 in
theorem rgo_any (h : Rw B C r m w) (hC : C ≤ w.heap.size) (hB : B ≤ w.heap.size) (I : Inw m) (hn : m.next ≤ 10000) (hl : m.L.length ≤ 250) {seq : Int} (hs : look m.L seq ≠ none) :
    Calls Try.prog 43 #[.pointer (some ⟨r, 0, none⟩), .int .i64 seq] w fun e w' => ∃ v, e = .returned (.tuple #[v, .int .i64 0]) ∧ WentR B C r w v m seq w' := by
  obtain ⟨ks, hks⟩ := idx_of hs
  have hsr := I.inv.fam.rg (by omega) hs
  obtain ⟨rt, sr, hr1, hr2, hr3⟩ := I.inv.fam.rt
  obtain ⟨l0, hu0⟩ := hr3 seq hs
  have HF : Hid _ := find_some h hl I.inv.nodup hks
  have HA : Hid _ := above_any h I.inv hn hl hs hu0 hr1 hr2
  have hl0 : l0.length ≤ 10000 := by
    have q1 := I.inv.fam.up_len hu0
    obtain ⟨s, hss⟩ := Option.ne_none_iff_exists'.1 hs
    have q2 := I.inv.fam.fr _ _ hss
    have q3 := I.inv.fam.fr _ _ hr1
    omega
  have HH : Hid (Rw B C r m w ∧ C ≤ w.heap.size ∧ B ≤ w.heap.size ∧ Inw m ∧ m.next ≤ 10000 ∧ m.L.length ≤ 250 ∧ look m.L seq ≠ none) := ⟨h, hC, hB, I, hn, hl, hs⟩
  have HT : Hid (Up m.L seq l0 rt ∧ look m.L rt = some sr ∧ sr.fr = -1 ∧ ∀ x, look m.L x ≠ none → ∃ l, Up m.L x l rt) := ⟨hu0, hr1, hr2, hr3⟩
  have d1 : decide (seq < 0) = false := decide_eq_false (by omega)
  have d2 : decide ((ks : Int) < 0) = false := decide_eq_false (by omega)
  clear h I hs hks hr1 hr2 hr3 hu0 hC hB hn hl
  go_enter Try.func43, Try.ntmps43
  go_wp2_with fail
  refine Calls.mono HF.out ?_
  rintro e w1 ⟨rfl, rfl⟩
  clear HF
  go_wp2_with fail
  refine Calls.mono HA.out ?_
  rintro e w2 ⟨va, rfl, ia, ka⟩
  clear HA
  obtain ⟨ga, ca, rfl, hga⟩ := ia.some (by simp)
  have hAl : (l0 ++ [rt]).length = l0.length + 1 := by simp
  rw [hAl] at ia ⊢
  have H2 : Hid (Ir w1.heap.size (.slice (some ⟨ga, 0, none⟩) (l0.length + 1) ca) (l0 ++ [rt]) w2 ∧ Kp w1 w2) := ⟨ia, ka⟩
  obtain ⟨NA, hNA⟩ : ∃ n, l0.length + 1 = n := ⟨_, rfl⟩
  have HNA : Hid ((l0 ++ [rt]).length = NA) := by rw [← hNA]; exact hAl
  rw [hNA] at H2 ⊢
  have hNA9 : NA ≤ 10001 := by omega
  clear ia ka hAl hNA hga
  go_wp2_with fail
  go_loopw [7] (fun v7 wr => ∃ (a' : Option Addr) (n c' : Nat), v7 = .slice a' n c' ∧ Hid (RgU B C r w1 m (l0 ++ [rt]) (.slice (some ⟨ga, 0, none⟩) NA ca) (.slice a' n c') wr)) (fun _ wr => nowR r wr)
  case atStart => exact ⟨none, 0, 0, rfl, m.now, [], .nil _, by simp, HH.out.2.2.2.1.inv.nw, Dx.nil _ _ _, HH.out.1.kp H2.out.2, Ff.kp H2.out.2, H2.out.1⟩
  case round =>
    clear H2
    obtain ⟨a', n, c', rfl, HI⟩ := hrel
    obtain ⟨y, la, u1, ap, hy, dd, tt, ff, ia⟩ := HI.out
    have c2 : wr.cell? ⟨r, 2, none⟩ = some (.int .i64 y) := by obtain ⟨b, q, h⟩ := tt; exact h.box.at (j := 2) rfl
    have HHas : Hid _ := has_any ia (by rw [HNA.out]; omega) y
    have hIy : Inw { m with now := y } := ⟨⟨HH.out.2.2.2.1.inv.fam, HH.out.2.2.2.1.inv.sq, hy⟩, HH.out.2.2.2.1.pth.ups u1, HH.out.2.2.2.1.onk⟩
    have hnm := HH.out.2.2.2.2.1
    have hF := HH.out.2.2.2.1.inv.fam
    by_cases e : y ∈ l0 ++ [rt]
    · have g1 : decide (y ∈ l0 ++ [rt]) = true := decide_eq_true e
      rw [g1] at HHas
      obtain ⟨l2, kk, u2, eA⟩ := of_above HT.out.1 e
      have hMt : Meet m.L m.now seq y la l2 := ⟨u1, u2, fun x hx l hlx => by
        rcases in_above (next := m.next) HT.out.1 hlx with h9 | ⟨k9, h9⟩
        · exact ap x hx h9
        · cases h9 with
          | nil => exact ap _ hx (by simp)
          | cons a1 a2 a3 => rw [HT.out.2.1] at a1; cases a1; exact a2 HT.out.2.2.1⟩
      have HM : Hid (Meet m.L m.now seq y la l2 ∧ l0 ++ [rt] = l2 ++ y :: kk) := ⟨hMt, eA⟩
      have hlt2 : l2.length < NA := by
        have e9 := congrArg List.length eA
        rw [HNA.out] at e9
        simp only [List.length_append, List.length_cons] at e9
        omega
      have HCA : Hid (∀ i, i ≤ l2.length → ∃ z, wr.cell? ⟨ga, i, none⟩ = some (.int .i64 z) ∧ (i = l2.length → z = y) ∧ (i < l2.length → z ≠ y)) := fun i hi => by
        obtain ⟨z, hz⟩ : ∃ z, (l0 ++ [rt])[i]? = some z := ⟨_, List.getElem?_eq_getElem (by rw [HNA.out]; omega)⟩
        refine ⟨z, Ir.cell ia HNA.out.symm hz, fun e9 => ?_, fun h9 => ?_⟩
        · rw [eA, e9, List.getElem?_append_right (Nat.le_refl _), Nat.sub_self] at hz
          cases hz; rfl
        · rw [eA, List.getElem?_append_left h9] at hz
          have := ((hF.up_le u2).2.1 z (List.mem_of_getElem? hz)).1
          omega
      have HS0 : Hid (Dw w1.heap.size (.slice a' n c') (upsD m.L la) wr ∧ Rw B C r { m with now := y } wr ∧ Ff TQ B w1 wr ∧ Ir w1.heap.size (.slice (some ⟨ga, 0, none⟩) NA ca) (l0 ++ [rt]) wr) := ⟨dd, tt, ff, ia⟩
      have hca : NA ≤ ca ∧ ca ≤ 9223372036854775807 := by
        obtain ⟨_, _, e9, h8, h9⟩ := ia.form
        simp only [Value.slice.injEq] at e9
        unfold maxLen at h9
        rw [HNA.out] at h8
        omega
      have hca1 := hca.1
      have hca2 := hca.2
      clear HI dd tt ff ia u1 ap hy u2 eA hMt hIy e g1 hca
      go_wp2_with fail
      refine Calls.mono HHas.out ?_
      rintro e w3 ⟨rfl, rfl⟩
      clear HHas
      go_wp2_with fail
      go_loopw [10] (fun v10 wr => ∃ (i q : Nat), v10 = .int .i64 i ∧ i ≤ l2.length ∧ wr = w3.drewN q) (fun v10 _ => l2.length - (intOf v10).toNat)
      case atStart => exact ⟨0, 0, rfl, Nat.zero_le _, rfl⟩
      case round =>
        obtain ⟨i, q, rfl, hi, rfl⟩ := hrel
        obtain ⟨z, cz, hz1, hz2⟩ := HCA.out i hi
        have hiN : i < NA := by omega
        by_cases e : i = l2.length
        · have ez := hz1 e
          subst ez
          have g1 : (z != z) = false := by simp
          have HSK : Hid (∀ q, RgD B C r w1 m (l0 ++ [rt]) z l2 (upsD m.L la) (.slice (some ⟨ga, 0, none⟩) NA ca) (.slice a' n c') i (w3.drewN q)) := fun q => by
            have hdr : l2.drop i = [] := by rw [e]; exact List.drop_eq_nil_of_le (Nat.le_refl _)
            unfold RgD
            rw [hdr]
            exact ⟨by simpa [dnD] using HS0.out.1.kp (okRow _ _) (kp_drewN _ _), HS0.out.2.1.kp (kp_drewN _ _), HS0.out.2.2.1.trans (Ff.kp (kp_drewN _ _)), HS0.out.2.2.2.kp (kp_drewN _ _)⟩
          have hile : i ≤ l2.length := hi
          clear hz1 hz2 HS0 HCA e
          go_wp2_with fail
          go_quiet (fail)
          go_wp2_with fail
          go_loopw [7, 10] (fun v7 v10 wr => ∃ (j n5 c5 : Nat) (a5 : Option Addr), j ≤ l2.length ∧ v10 = .int .i64 j ∧ v7 = .slice a5 n5 c5 ∧ Hid (RgD B C r w1 m (l0 ++ [rt]) z l2 (upsD m.L la) (.slice (some ⟨ga, 0, none⟩) NA ca) (.slice a5 n5 c5) j wr)) (fun _ v10 _ => (intOf v10).toNat)
          case atStart => exact ⟨i, n, c', a', hile, rfl, rfl, by first | exact HSK.out _ | (rw [drew2]; exact HSK.out _)⟩
          case round =>
            clear HSK
            obtain ⟨j, n5, c5, a5, hj, rfl, rfl, HD⟩ := hrel
            cases j with
            | zero =>
              have g2 : decide (((0 : Nat) : Int) > 0) = false := by decide
              have g3 : decide ((0 : Int) > 0) = false := by decide
              have g4 : decide ((0 : Int) < 0) = false := by decide
              have HX : Hid (WentR B C r w1 (.slice a5 n5 c5) m seq wr) := by
                obtain ⟨x1, x2, x3, _⟩ := HD.out
                rw [List.drop_zero] at x1 x2
                refine ⟨z, la, l2, HM.out.1, x1, ?_, x3⟩
                rw [hF.dled HM.out.1.u2]
                have e9 := HM.out.1.u2.headD
                rw [e9] at x2
                exact x2
              clear HD
              go_wp2_with fail
              go_ret2
              exact ⟨_, rfl, HX.out⟩
            | succ i2 =>
              have g2 : decide (((i2 + 1 : Nat) : Int) > 0) = true := decide_eq_true (by omega)
              have g3 : decide ((0 : Int) < ((i2 + 1 : Nat) : Int)) = true := decide_eq_true (by omega)
              have g4 : ((i2 + 1 : Nat) : Int) - 1 = (i2 : Int) := by omega
              obtain ⟨dd, tt, ff, ia⟩ := HD.out
              obtain ⟨y2, hy2⟩ : ∃ y2, l2[i2]? = some y2 := ⟨_, List.getElem?_eq_getElem (by omega)⟩
              have hdrop : l2.drop i2 = y2 :: l2.drop (i2 + 1) := by
                obtain ⟨h8, h9⟩ := List.getElem?_eq_some_iff.1 hy2
                rw [List.drop_eq_getElem_cons h8, h9]
              obtain ⟨lr, hlr⟩ : ∃ lr, l2.drop (i2 + 1) = lr := ⟨_, rfl⟩
              have hu2 := HM.out.1.u2
              have esp : l2 = l2.take i2 ++ (y2 :: lr) := by rw [← hlr, ← hdrop, List.take_append_drop]
              rw [esp] at hu2
              obtain ⟨_, hU1⟩ := hu2.cut
              have hU1' : Up m.L y2 (y2 :: lr) z := hU1
              obtain ⟨sy, r9, hsy, e9, hfry, hU2⟩ := hU1'.head (by simp)
              cases e9
              rw [← hfry] at hU2
              rw [hlr] at dd tt
              obtain ⟨p, hp⟩ : ∃ p, lr.headD z = p := ⟨_, rfl⟩
              rw [hp] at hfry hU2 tt
              have hlkp : look m.L p ≠ none := by rw [hfry]; exact hF.from_there hsy (by cases hU1' with | cons a1 a2 a3 => rw [hsy] at a1; cases a1; exact a2)
              have hFr := hF.led hU2
              have hFr3 := hF.led hU1'
              rw [hF.dled hU2] at hFr
              rw [hF.dled hU1'] at hFr3
              have e3 : dled m.L (y2 :: lr) z = setOn (dled m.L lr z) p y2 := by show setOn (dled m.L lr z) (lr.headD z) y2 = _; rw [hp]
              have hnp : look (dled m.L lr z) p ≠ none := by rw [← hF.dled hU2]; exact (ne_led _ _ _).2 hlkp
              have I1 : Inv { m with L := dled m.L lr z, now := p } := ⟨hFr.1, by show ((dled m.L lr z).map St.seq).Pairwise _; rw [hFr.2]; exact HH.out.2.2.2.1.inv.sq, hnp⟩
              have I3 : Inv { m with L := dled m.L (y2 :: lr) z, now := p } := ⟨hFr3.1, by show ((dled m.L (y2 :: lr) z).map St.seq).Pairwise _; rw [hFr3.2]; exact HH.out.2.2.2.1.inv.sq, by show look (dled m.L (y2 :: lr) z) p ≠ none; rw [e3]; exact (look_on_ne _ _ _ _).2 hnp⟩
              have hlen3 : (dled m.L lr z).length ≤ 250 := by
                have e8 := congrArg List.length hFr.2
                simp only [List.length_map] at e8
                rw [e8]; exact HH.out.2.2.2.2.2.1
              have hlen4 : (dled m.L (y2 :: lr) z).length ≤ 250 := by rw [e3, setOn_len]; exact hlen3
              obtain ⟨kf, hkf⟩ := idx_of hnp
              obtain ⟨sp, hsp⟩ := Option.ne_none_iff_exists'.1 hnp
              have hkfs := at_of I1.sq hkf hsp
              have HF2 : Hid (∀ zz, Kp wr zz → Calls Try.prog 60 #[.pointer (some ⟨r, 0, none⟩), .int .i64 p] zz fun e w' => e = .returned (.int .i64 kf) ∧ w' = zz) := fun zz kz => find_some (m := { m with L := dled m.L lr z, now := p }) (tt.kp kz) hlen3 I1.nodup hkf
              obtain ⟨sv, vs, hR⟩ := tt
              obtain ⟨g, cc, uu, rfl, _, hcc1, hcc2, _, _, _, _, q3, fz⟩ := hR.cell hkfs
              have c1 := hR.box.at (j := 1) rfl
              have c2 : wr.cell? ⟨r, 2, none⟩ = some (.int .i64 p) := hR.box.at (j := 2) rfl
              have c3 : wr.cell? ⟨ga, i2, none⟩ = some (.int .i64 y2) := Ir.cell ia HNA.out.symm (by rw [HM.out.2, List.getElem?_append_left (by omega)]; exact hy2)
              have fz3 := fz (kf * 4 + 3)
              have hkN := (List.getElem?_eq_some_iff.1 hkfs).1
              obtain ⟨W5, hW5⟩ : ∃ W5, (wr.setCell ⟨g, kf * 4 + 3, none⟩ (.int .i64 y2)).drew = W5 := ⟨_, rfl⟩
              have HW5 : Hid (_ = W5) := hW5
              obtain ⟨r5, f5⟩ := hR.on I1.nodup hkf y2
              have r6 := r5.kp (kp_drew _)
              rw [hW5] at r6
              have f6 : Ff TQ B wr W5 := by rw [← hW5]; exact f5.trans (Ff.kp (kp_drew _))
              have d1' := r6.box.at (j := 1) rfl
              have d2' : W5.cell? ⟨r, 2, none⟩ = some (.int .i64 p) := r6.box.at (j := 2) rfl
              have ia5 := ia.ffq f6
              have d3' : W5.cell? ⟨ga, i2, none⟩ = some (.int .i64 y2) := Ir.cell ia5 HNA.out.symm (by rw [HM.out.2, List.getElem?_append_left (by omega)]; exact hy2)
              have R6 : Rw B C r { m with L := dled m.L (y2 :: lr) z, now := p } W5 := by rw [e3]; exact ⟨_, _, r6⟩
              have lkp3 : look (dled m.L (y2 :: lr) z) p = some { sp with on := y2 } := by rw [e3, look_on, hsp]; simp
              have hny : look (dled m.L (y2 :: lr) z) y2 ≠ none := by rw [← hF.dled hU1']; exact (ne_led _ _ _).2 (by rw [hsy]; simp)
              obtain ⟨s2, hs2⟩ := Option.ne_none_iff_exists'.1 hny
              have hby2 : byOf m.L y2 = s2.by_ := by rw [← by_led (y := z) (y2 :: lr) m.L y2, hF.dled hU1']; exact byOf_some hs2
              have ff5 : Ff TQ B w1 W5 := ff.trans f6
              have hy0 := hF.fr _ _ hsy
              have HR2 : Hid _ := rredo_any (m := { m with L := dled m.L (y2 :: lr) z, now := p }) R6 I3 hlen4 (Nat.le_trans HH.out.2.2.1 ff5.size) lkp3 (by show y2 ≠ -1; omega) (s' := s2) hs2
              have dd5 := dd.ff f6 (tq_of (by decide) (by decide)) (tq_of (by decide) (by decide))
              have hlen5 : (upsD m.L la ++ dnD m.L lr).length = n5 := by obtain ⟨a', c', e', _⟩ := dd.form; cases e'; rfl
              have hsz : n5 + s2.by_.length ≤ 1000000000 := by
                have q1 := hF.ups_len la
                have q2 := hF.dn_len lr
                have q3 := hF.up_len HM.out.1.u1
                have q4 := hF.up_len hU2
                have q5 := I3.fam.few _ _ hs2
                obtain ⟨sn, hsn⟩ := Option.ne_none_iff_exists'.1 HH.out.2.2.2.1.inv.nw
                have q11 := hF.fr _ _ hsn
                have q12 := hF.rg (by omega) (hF.up_there HM.out.1.u1 HH.out.2.2.2.1.inv.nw)
                have q13 := q5.1
                rw [List.length_append] at hlen5
                omega
              have H3 : Hid (∀ v4 w4, GoneR B C r W5 v4 s2.by_ { m with L := dled m.L (y2 :: lr) z, now := y2 } w4 → ∃ a4 c4, v4 = .slice a4 s2.by_.length c4 ∧ Hid (Dw w1.heap.size (.slice a5 n5 c5) (upsD m.L la ++ dnD m.L lr) w4 ∧ Dr (fun k => w1.heap.size ≤ k) (Row w1.heap.size) (.slice a4 s2.by_.length c4) s2.by_ w4 ∧ w1.heap.size ≤ w4.heap.size ∧ Rw B C r { m with L := dled m.L (y2 :: lr) z, now := y2 } w4 ∧ Ff TQ B w1 w4 ∧ Ir w1.heap.size (.slice (some ⟨ga, 0, none⟩) NA ca) (l0 ++ [rt]) w4)) := by
                rintro v4 w4 ⟨x1, x2, x3⟩
                obtain ⟨a4, c4, rfl, _⟩ := x1.form
                exact ⟨a4, c4, rfl, dd5.ff x3 (tq_of (by decide) (by decide)) (tq_of (by decide) (by decide)), (x1.lower ff5.size ff5.size).dr, Nat.le_trans ff5.size x3.size, x2, ff5.trans x3, ia5.ffq x3⟩
              have H4 : Hid (∀ a6 c6 w4 w5, Dw w1.heap.size (.slice a5 n5 c5) (upsD m.L la ++ dnD m.L lr) w4 → Rw B C r { m with L := dled m.L (y2 :: lr) z, now := y2 } w4 → Ff TQ B w1 w4 → Ir w1.heap.size (.slice (some ⟨ga, 0, none⟩) NA ca) (l0 ++ [rt]) w4 → Dw w1.heap.size (.slice a6 (n5 + s2.by_.length) c6) (upsD m.L la ++ dnD m.L lr ++ s2.by_) w5 → w4.grownBy w5 (Value.slice a5 n5 c5).ownBlock → Below w1.heap.size w4 w5 → RgD B C r w1 m (l0 ++ [rt]) z l2 (upsD m.L la) (.slice (some ⟨ga, 0, none⟩) NA ca) (.slice a6 (n5 + s2.by_.length) c6) i2 w5) := fun a6 c6 w4 w5 x1 x2 x3 xi x4 x5 x6 => by
                obtain ⟨cs, z1, z2⟩ := x1
                have t5 := x2.app (row_lift z1 fun j hj => Nat.le_trans HH.out.2.1 (z1.lt j hj).1) x5
                unfold RgD
                rw [hdrop, hlr]
                exact ⟨by rw [dnD_cons, hby2, ← List.append_assoc]; exact x4, t5, x3.new x6, xi.app z1 x5⟩
              have hi2N : i2 < NA := by omega
              generalize hNL : ({ m with L := dled m.L lr z, now := p } : Tr).L.length = NL at c1 d1' hkN hcc1
              unfold maxLen at hcc2
              have hi2l : i2 ≤ l2.length := by omega
              clear HD dd ff ia hdrop hu2 esp hU1 hU1' hsy hU2 hlkp hFr hFr3 hnp I1 I3 hlen3 hlen4 hkf hsp hkfs hR r5 f5 r6 f6 ia5 R6 lkp3 hny hs2 ff5 hy0 dd5 hNL hW5 e3 hby2 hp hfry hlr hy2 fz hF
              go_upto_region 13 with fail
              refine wp_region_noPanic ?_
              refine wp_region_held_drew (S := fun zz => zz.cell? ⟨r, 1, none⟩ = some (.slice (some ⟨g, 0, none⟩) NL cc) ∧ zz.cell? ⟨r, 2, none⟩ = some (.int .i64 p) ∧ zz.cell? ⟨ga, i2, none⟩ = some (.int .i64 y2)) (by kernel_rfl) (⟨c1, c2, c3⟩) (fun hHeld => ?_)
              refine takeAt 0 (some 54) ?_ rfl rfl (by kernel_rfl) (by kernel_rfl) (by kernel_rfl) (fun _ _ _ h => h) (Or.inl ⟨by rfl, ?_⟩) hHeld ?_
              rotate_left
              · intro w hSw
                go_simp <;> with_reducible rfl
              try simp only [Act.put, List.setIfInBounds_toArray, List.set_cons_zero, List.set_cons_succ]
              refine takeAt 1 (some 55) ?_ rfl rfl (by kernel_rfl) (by kernel_rfl) (by kernel_rfl) (fun _ _ _ h => h) (Or.inl ⟨by rfl, ?_⟩) hHeld ?_
              rotate_left
              · intro w hSw
                go_simp <;> with_reducible rfl
              try simp only [Act.put, List.setIfInBounds_toArray, List.set_cons_zero, List.set_cons_succ]
              refine takeAt 2 (some 56) ?_ rfl rfl (by kernel_rfl) (by kernel_rfl) (by kernel_rfl) (fun _ _ _ h => h) (Or.inl ⟨by rfl, ?_⟩) hHeld ?_
              rotate_left
              · intro w hSw
                go_simp <;> with_reducible rfl
              try simp only [Act.put, List.setIfInBounds_toArray, List.set_cons_zero, List.set_cons_succ]
              refine takeAt 3 (some 57) ?_ rfl rfl (by kernel_rfl) (by kernel_rfl) (by kernel_rfl) (fun _ _ _ h => h) (Or.inl ⟨by rfl, ?_⟩) hHeld ?_
              rotate_left
              · intro w hSw
                go_simp <;> with_reducible rfl
              try simp only [Act.put, List.setIfInBounds_toArray, List.set_cons_zero, List.set_cons_succ]
              refine takeAt 4 (some 58) ?_ rfl rfl (by kernel_rfl) (by kernel_rfl) (by kernel_rfl) (fun _ _ _ h => h) (Or.inl ⟨by rfl, ?_⟩) hHeld ?_
              rotate_left
              · intro w hSw
                go_simp <;> with_reducible rfl
              try simp only [Act.put, List.setIfInBounds_toArray, List.set_cons_zero, List.set_cons_succ]
              refine takeAt 5 (some 59) ?_ rfl rfl (by kernel_rfl) (by kernel_rfl) (by kernel_rfl) (fun _ _ _ h => h) (Or.inl ⟨by rfl, ?_⟩) hHeld ?_
              rotate_left
              · intro w hSw
                go_simp <;> with_reducible rfl
              try simp only [Act.put, List.setIfInBounds_toArray, List.set_cons_zero, List.set_cons_succ]
              refine takeAt 6 (some 60) ?_ rfl rfl (by kernel_rfl) (by kernel_rfl) (by kernel_rfl) (fun _ _ _ h => h) (Or.inl ⟨by rfl, ?_⟩) hHeld ?_
              rotate_left
              · intro w hSw
                go_simp <;> with_reducible rfl
              try simp only [Act.put, List.setIfInBounds_toArray, List.set_cons_zero, List.set_cons_succ]
              refine takeAt 7 (some 61) ?_ rfl rfl (by kernel_rfl) (by kernel_rfl) (by kernel_rfl) (fun _ _ _ h => h) (Or.inl ⟨by rfl, ?_⟩) hHeld ?_
              rotate_left
              · intro w hSw
                go_simp <;> with_reducible rfl
              try simp only [Act.put, List.setIfInBounds_toArray, List.set_cons_zero, List.set_cons_succ]
              refine takeAt 8 (some 62) ?_ rfl rfl (by kernel_rfl) (by kernel_rfl) (by kernel_rfl) (fun _ _ _ h => h) (Or.inl ⟨by rfl, ?_⟩) hHeld ?_
              rotate_left
              · intro w hSw
                go_simp <;> with_reducible rfl
              try simp only [Act.put, List.setIfInBounds_toArray, List.set_cons_zero, List.set_cons_succ]
              refine takeAt 10 (some 64) ?_ rfl rfl (by kernel_rfl) (by kernel_rfl) (by kernel_rfl) (fun _ _ _ h => h) (Or.inl ⟨by rfl, ?_⟩) hHeld ?_
              rotate_left
              · intro w hSw
                go_simp <;> with_reducible rfl
              try simp only [Act.put, List.setIfInBounds_toArray, List.set_cons_zero, List.set_cons_succ]
              refine takeAt 11 (some 65) ?_ rfl rfl (by kernel_rfl) (by kernel_rfl) (by kernel_rfl) (fun _ _ _ h => h) (Or.inl ⟨by rfl, ?_⟩) hHeld ?_
              rotate_left
              · intro w hSw
                go_simp <;> with_reducible rfl
              try simp only [Act.put, List.setIfInBounds_toArray, List.set_cons_zero, List.set_cons_succ]
              refine takeAt 12 (some 66) ?_ rfl rfl (by kernel_rfl) (by kernel_rfl) (by kernel_rfl) (fun _ _ _ h => h) (Or.inl ⟨by rfl, ?_⟩) hHeld ?_
              rotate_left
              · intro w hSw
                go_simp <;> with_reducible rfl
              try simp only [Act.put, List.setIfInBounds_toArray, List.set_cons_zero, List.set_cons_succ]
              refine takeAt 13 (some 67) ?_ rfl rfl (by kernel_rfl) (by kernel_rfl) (by kernel_rfl) (fun _ _ _ h => h) (Or.inl ⟨by rfl, ?_⟩) hHeld ?_
              rotate_left
              · intro w hSw
                go_simp <;> with_reducible rfl
              try simp only [Act.put, List.setIfInBounds_toArray, List.set_cons_zero, List.set_cons_succ]
              refine callAt 9 63 60 (vals := #[.pointer (some ⟨r, 0, none⟩), .int .i64 p]) (by kernel_rfl) rfl rfl rfl rfl (by simp [Act.eval]) Try.func60 (by kernel_rfl) (by kernel_rfl) ?_
              refine Calls.mono (HF2.out _ (by first | exact Below.refl _ _ | exact kp_drew _)) ?_
              rintro e w7 ⟨rfl, rfl⟩
              refine ⟨_, rfl, hHeld, fun hHeld => ?_⟩
              try simp only [Act.put, List.setIfInBounds_toArray, List.set_cons_zero, List.set_cons_succ]
              refine takeAt 14 (some 68) ?_ rfl rfl (by kernel_rfl) (by kernel_rfl) (by kernel_rfl) (fun _ _ _ h => h) (Or.inl ⟨by rfl, ?_⟩) hHeld ?_
              rotate_left
              · intro w hSw
                go_simp <;> with_reducible rfl
              try simp only [Act.put, List.setIfInBounds_toArray, List.set_cons_zero, List.set_cons_succ]
              refine takeAt 15 (some 69) ?_ rfl rfl (by kernel_rfl) (by kernel_rfl) (by kernel_rfl) (fun _ _ _ h => h) (Or.inl ⟨by rfl, ?_⟩) hHeld ?_
              rotate_left
              · intro w hSw
                go_simp <;> with_reducible rfl
              try simp only [Act.put, List.setIfInBounds_toArray, List.set_cons_zero, List.set_cons_succ]
              refine wpAnyH_ready (rs := [16]) (by kernel_rfl) (by simp) ?_
              refine AllReadyH.cons rfl (fun K hK => ?_) AllReadyH.nil
              go_simp
              refine hK.out _ _ (by rw [HW5.out]; exact ⟨d1', d2', d3'⟩) (fun hHeld => ?_)
              clear hK K
              try simp only [Act.put, List.setIfInBounds_toArray, List.set_cons_zero, List.set_cons_succ]
              refine wpAnyH_done (by kernel_rfl) ?_ _
              refine NoPanic.normal ?_
              rw [HW5.out]
              go_wp2_with fail
              refine Calls.mono HR2.out ?_
              rintro e w4 ⟨v4, rfl, q4⟩
              obtain ⟨a4, c4, rfl, H5⟩ := H3.out _ _ q4
              clear HR2 H3 q4
              have HL : Hid ((upsD m.L la ++ dnD m.L lr).length + s2.by_.length = n5 + s2.by_.length) := by rw [hlen5]; rfl
              go_wp2_with (at_builtin; refine wpl_del (K := n5 + s2.by_.length) rfl (.tmp 75) (.tmp 76) rfl (okRow _ _) rfl H5.out.1 rfl H5.out.2.1 HL.out (by omega) H5.out.2.2.1 ?_; intro a6 c6 w5 _ _ q1 q2 q3; have H6 : Hid _ := H4.out a6 c6 w4 w5 H5.out.1 H5.out.2.2.2.1 H5.out.2.2.2.2.1 H5.out.2.2.2.2.2 q1 q2 q3; clear q1 q2 q3)
              go_roundw
              case rel => exact ⟨i2, _, c6, a6, hi2l, by first | rfl | go_num, rfl, H6.out⟩
              case measure => simp only [intOf]; omega
        · have g1 : (z != y) = true := by simpa using hz2 (by omega)
          clear hz1 hz2
          go_wp2_with fail
          go_quiet (fail)
          go_wp2_with fail
          go_roundw
          case rel => exact ⟨i + 1, _, by go_num, by omega, by first | rfl | exact drew2 _ _ _⟩
          case measure => simp only [intOf]; omega
    · have g1 : decide (y ∈ l0 ++ [rt]) = false := decide_eq_false e
      rw [g1] at HHas
      obtain ⟨s, hss⟩ := Option.ne_none_iff_exists'.1 hy
      have hfr : s.fr ≠ -1 := fun e9 => by
        obtain ⟨l9, h9⟩ := HT.out.2.2.2 y hy
        cases h9 with
        | nil => exact e (by simp)
        | cons a1 a2 a3 => rw [hss] at a1; cases a1; exact a2 e9
      have hfs := hF.fr _ _ hss
      have hby := hF.few _ _ hss
      have hlen : (upsD m.L la).length = n := by obtain ⟨a', c', e', _⟩ := dd.form; cases e'; rfl
      have hsz : n + s.by_.length ≤ 1000000000 := by
        have q1 := hF.ups_len la
        have q3 := hF.up_len u1
        have q7 := hby.1
        obtain ⟨sn, hsn⟩ := Option.ne_none_iff_exists'.1 HH.out.2.2.2.1.inv.nw
        have q11 := hF.fr _ _ hsn
        omega
      have HU : Hid _ := rundo_any (m := { m with now := y }) tt hIy.inv HH.out.2.2.2.2.2.1 (Nat.le_trans HH.out.2.2.1 ff.size) hss hfr
      rw [hIy.same hss hfr] at HU
      have H3 : Hid (∀ v4 w4, GoneR B C r wr v4 (turnD s.by_) { m with now := s.fr } w4 → ∃ a4 c4, v4 = .slice a4 s.by_.length c4 ∧ Hid (Dw w1.heap.size (.slice a' n c') (upsD m.L la) w4 ∧ Dr (fun k => w1.heap.size ≤ k) (Row w1.heap.size) (.slice a4 s.by_.length c4) (turnD s.by_) w4 ∧ w1.heap.size ≤ w4.heap.size ∧ Rw B C r { m with now := s.fr } w4 ∧ Ff TQ B w1 w4 ∧ Ir w1.heap.size (.slice (some ⟨ga, 0, none⟩) NA ca) (l0 ++ [rt]) w4)) := by
        rintro v4 w4 ⟨x1, x2, x3⟩
        obtain ⟨a4, c4, e4, _⟩ := x1.form
        rw [turnD_len] at e4
        subst e4
        exact ⟨a4, c4, rfl, dd.ff x3 (tq_of (by decide) (by decide)) (tq_of (by decide) (by decide)), (x1.lower ff.size ff.size).dr, Nat.le_trans ff.size x3.size, x2, ff.trans x3, ia.ffq x3⟩
      have H4 : Hid (∀ a5 c5 w4 w5, Dw w1.heap.size (.slice a' n c') (upsD m.L la) w4 → Rw B C r { m with now := s.fr } w4 → Ff TQ B w1 w4 → Ir w1.heap.size (.slice (some ⟨ga, 0, none⟩) NA ca) (l0 ++ [rt]) w4 → Dw w1.heap.size (.slice a5 (n + s.by_.length) c5) (upsD m.L la ++ turnD s.by_) w5 → w4.grownBy w5 (Value.slice a' n c').ownBlock → Below w1.heap.size w4 w5 → RgU B C r w1 m (l0 ++ [rt]) (.slice (some ⟨ga, 0, none⟩) NA ca) (.slice a5 (n + s.by_.length) c5) w5 ∧ nowR r w5 = s.fr.toNat) := fun a5 c5 w4 w5 x1 x2 x3 xi x4 x5 x6 => by
        obtain ⟨cs, z1, z2⟩ := x1
        have t5 := x2.app (row_lift z1 fun j hj => Nat.le_trans HH.out.2.1 (z1.lt j hj).1) x5
        refine ⟨⟨s.fr, la ++ [y], u1.snoc hss hfr, fun x hx => ?_, hF.from_there hss hfr, ?_, t5, x3.new x6, xi.app z1 x5⟩, nowR_eq t5⟩
        · rcases List.mem_append.1 hx with hx | hx
          · exact ap x hx
          · simp only [List.mem_singleton] at hx; subst hx; exact e
        · rw [upsD_app, upsD_one, byOf_some hss]; exact x4
      have hnw := nowR_eq tt
      have hme : s.fr.toNat < y.toNat := by
        have := hF.rg (by omega) (hF.from_there hss hfr)
        omega
      clear HI dd tt ff ia u1 ap hy hIy e g1 hss hfs hby
      go_wp2_with fail
      refine Calls.mono HHas.out ?_
      rintro e w3 ⟨rfl, rfl⟩
      clear HHas
      go_wp2_with fail
      refine Calls.mono HU.out ?_
      rintro e w4 ⟨v4, rfl, q4⟩
      obtain ⟨a4, c4, rfl, H5⟩ := H3.out _ _ q4
      clear HU H3 q4
      have HL : Hid ((upsD m.L la).length + (turnD s.by_).length = n + s.by_.length) := by rw [hlen, turnD_len]; rfl
      go_wp2_with (at_builtin; refine wpl_del (K := n + s.by_.length) rfl (.tmp 36) (.tmp 37) rfl (okRow _ _) rfl H5.out.1 rfl H5.out.2.1 HL.out (by omega) H5.out.2.2.1 ?_; intro a5 c5 w5 _ _ q1 q2 q3; have H6 : Hid _ := H4.out a5 c5 w4 w5 H5.out.1 H5.out.2.2.2.1 H5.out.2.2.2.2.1 H5.out.2.2.2.2.2 q1 q2 q3; clear q1 q2 q3)
      go_roundw
      case rel => exact ⟨a5, _, c5, rfl, H6.out.1⟩
      case measure => rw [H6.out.2, hnw]; exact hme
end
end Go.Proofs.Ytbkhhgaihhbhjaa
/- The document's Earlier and Later; each call on both trees. -/
namespace Go.Proofs.Ytbkhhgaihhbhjaa
open Go.ChangeShapes Go.WideShapes Go.ChangeAt Go.RowKit Go.Maps Go.MapKept
set_option linter.unusedVariables false
set_option linter.unusedSimpArgs false
set_option maxRecDepth 100000
section
variable {B C r t : Nat} {m : Tr} {w w1 : World}
/-- What the document's Later and Earlier come to. -/
def LedR (B C r : Nat) (w : World) (m : Tr) (err : Int) (seq : Int) (v : Value) (w' : World) : Prop :=
  (err ≠ 0 ∧ v = .slice none 0 0 ∧ Kp w w') ∨ (err = 0 ∧ WentR B C r w v m seq w')
set_option maxHeartbeats 8000000 in
theorem rlater_any (h : Rw B C r m w) (hC : C ≤ w.heap.size) (hB : B ≤ w.heap.size) (I : Inw m) (hn : m.next ≤ 10000) (hl : m.L.length ≤ 250) {k : Nat} {n : Int} (hk : (m.L.map St.seq)[k]? = some m.now) {err seq : Int}
    (hc : (n < 1 ∧ err = 1) ∨ (1 ≤ n ∧ k + 1 = m.L.length ∧ err = 121) ∨ (1 ≤ n ∧ err = 0 ∧ ∃ j : Nat, min n ((m.L.length - (k + 1) : Nat) : Int) = (j : Int) + 1 ∧ (m.L.map St.seq)[k + 1 + j]? = some seq)) :
    Calls Try.prog 45 #[.pointer (some ⟨r, 0, none⟩), .int .i64 n] w fun e w' => ∃ v, e = .returned (.tuple #[v, .int .i64 err]) ∧ LedR B C r w m err seq v w' := by
  have hkl := (List.getElem?_eq_some_iff.1 hk).1
  rw [List.length_map] at hkl
  have HF : Hid _ := find_some h hl I.inv.nodup hk
  have hR := h
  obtain ⟨v, vs, hb⟩ := hR
  have c1 := hb.box.at (j := 1) rfl
  have c2 := hb.box.at (j := 2) rfl
  obtain ⟨a, cp, hv, hc1, hc2⟩ := owns_form hb.row
  rw [hv] at c1
  unfold maxLen at hc2
  rcases hc with ⟨h1, rfl⟩ | ⟨h1, h2, rfl⟩ | ⟨h1, rfl, j, h2, h3⟩
  · have d1 : decide (n < 1) = true := decide_eq_true h1
    clear HF h hb hv
    go_enter Try.func45, Try.ntmps45
    go_wp2_with fail
    go_ret2
    exact ⟨_, rfl, .inl ⟨by decide, rfl, Below.refl _ _⟩⟩
  · have d1 : decide (n < 1) = false := decide_eq_false (by omega)
    have d2 : (m.L.length : Int) - 1 - (k : Int) = 0 := by omega
    generalize m.L.length = N at *
    clear h hb hv hk
    go_enter Try.func45, Try.ntmps45
    go_wp2_with fail
    refine Calls.mono HF.out ?_
    rintro e w1 ⟨rfl, rfl⟩
    clear HF
    go_wp2_with fail
    go_ret2
    exact ⟨_, rfl, .inl ⟨by decide, rfl, Below.refl _ _⟩⟩
  · have d1 : decide (n < 1) = false := decide_eq_false (by omega)
    have hkj := (List.getElem?_eq_some_iff.1 h3).1
    rw [List.length_map] at hkj
    have d2 : (m.L.length : Int) - 1 - (k : Int) = ((m.L.length - (k + 1) : Nat) : Int) := by omega
    have d3 : (((m.L.length - (k + 1) : Nat) : Int) == 0) = false := by simp; omega
    have hj0 : ((k : Int) + min n ((m.L.length : Int) - 1 - (k : Int))) = ((k + 1 + j : Nat) : Int) := by rw [d2, h2]; omega
    have HG : Hid _ := rgo_any h hC hB I hn hl (look_there I.inv.sq h3)
    obtain ⟨s, hs, e9⟩ : ∃ s, m.L[k + 1 + j]? = some s ∧ s.seq = seq := by
      rw [List.getElem?_map] at h3
      obtain ⟨s, q1, q2⟩ := Option.map_eq_some_iff.1 h3
      exact ⟨s, q1, q2⟩
    obtain ⟨g, cc, u, e8, _, _, _, _, q0, _⟩ := hb.cell hs
    rw [hv] at e8; cases e8
    rw [e9] at q0
    have d5 : (((m.L.length : Int) - 1 - (k : Int)) == 0) = false := by rw [d2]; exact d3
    have hkjI : ((k + 1 + j : Nat) : Int) < (m.L.length : Int) := by omega
    have hjr : (m.L.length : Int) - 1 ≤ 9223372036854775807 := by omega
    have hb1 : -9223372036854775808 ≤ (m.L.length : Int) - 1 - (k : Int) := by omega
    have d9 : (k : Int) + min n ((m.L.length : Int) - 1 - (k : Int)) ≤ 9223372036854775807 := by rw [hj0]; omega
    generalize m.L.length = N at *
    clear h hb hv hk hs h2 h3 d2 d3
    go_enter Try.func45, Try.ntmps45
    go_wp2_with fail
    refine Calls.mono HF.out ?_
    rintro e w1 ⟨rfl, rfl⟩
    clear HF
    go_wp2_with fail
    refine Calls.mono HG.out ?_
    rintro e w2 ⟨v2, rfl, q2⟩
    have H2 : Hid _ := q2
    clear HG q2
    go_wp2_with fail
    go_ret2
    exact ⟨_, rfl, .inr ⟨rfl, H2.out⟩⟩
set_option maxHeartbeats 8000000 in
theorem rearlier_any (h : Rw B C r m w) (hC : C ≤ w.heap.size) (hB : B ≤ w.heap.size) (I : Inw m) (hn : m.next ≤ 10000) (hl : m.L.length ≤ 250) {k : Nat} {n : Int} (hk : (m.L.map St.seq)[k]? = some m.now) {err seq : Int}
    (hc : (n < 1 ∧ err = 1) ∨ (1 ≤ n ∧ k = 0 ∧ err = 121) ∨ (1 ≤ n ∧ err = 0 ∧ ∃ j : Nat, min n (k : Int) = (j : Int) + 1 ∧ (m.L.map St.seq)[k - (j + 1)]? = some seq)) :
    Calls Try.prog 44 #[.pointer (some ⟨r, 0, none⟩), .int .i64 n] w fun e w' => ∃ v, e = .returned (.tuple #[v, .int .i64 err]) ∧ LedR B C r w m err seq v w' := by
  have hkl := (List.getElem?_eq_some_iff.1 hk).1
  rw [List.length_map] at hkl
  have HF : Hid _ := find_some h hl I.inv.nodup hk
  have hR := h
  obtain ⟨v, vs, hb⟩ := hR
  have c1 := hb.box.at (j := 1) rfl
  have c2 := hb.box.at (j := 2) rfl
  obtain ⟨a, cp, hv, hc1, hc2⟩ := owns_form hb.row
  rw [hv] at c1
  unfold maxLen at hc2
  rcases hc with ⟨h1, rfl⟩ | ⟨h1, h2, rfl⟩ | ⟨h1, rfl, j, h2, h3⟩
  · have d1 : decide (n < 1) = true := decide_eq_true h1
    clear HF h hb hv
    go_enter Try.func44, Try.ntmps44
    go_wp2_with fail
    go_ret2
    exact ⟨_, rfl, .inl ⟨by decide, rfl, Below.refl _ _⟩⟩
  · have d1 : decide (n < 1) = false := decide_eq_false (by omega)
    subst h2
    generalize m.L.length = N at *
    clear h hb hv hk
    go_enter Try.func44, Try.ntmps44
    go_wp2_with fail
    refine Calls.mono HF.out ?_
    rintro e w1 ⟨rfl, rfl⟩
    clear HF
    go_wp2_with fail
    go_ret2
    exact ⟨_, rfl, .inl ⟨by decide, rfl, Below.refl _ _⟩⟩
  · have d1 : decide (n < 1) = false := decide_eq_false (by omega)
    have hkj := (List.getElem?_eq_some_iff.1 h3).1
    rw [List.length_map] at hkj
    have hkp : j + 1 ≤ k := by omega
    have d3 : ((k : Int) == 0) = false := by simp; omega
    obtain ⟨ix, hix⟩ : ∃ ix, k - (j + 1) = ix := ⟨_, rfl⟩
    rw [hix] at h3 hkj
    have hj0 : max ((k : Int) - min n (k : Int)) 0 = (ix : Int) := by rw [h2]; omega
    have HG : Hid _ := rgo_any h hC hB I hn hl (look_there I.inv.sq h3)
    obtain ⟨s, hs, e9⟩ : ∃ s, m.L[ix]? = some s ∧ s.seq = seq := by
      rw [List.getElem?_map] at h3
      obtain ⟨s, q1, q2⟩ := Option.map_eq_some_iff.1 h3
      exact ⟨s, q1, q2⟩
    obtain ⟨g, cc, u, e8, _, _, _, _, q0, _⟩ := hb.cell hs
    rw [hv] at e8; cases e8
    rw [e9] at q0
    have hb1 : -9223372036854775808 ≤ (k : Int) - min n (k : Int) := by omega
    have hb2 : (k : Int) - min n (k : Int) ≤ 9223372036854775807 := by omega
    generalize m.L.length = N at *
    clear h hb hv hk hs h2 h3 hix
    go_enter Try.func44, Try.ntmps44
    go_wp2_with fail
    refine Calls.mono HF.out ?_
    rintro e w1 ⟨rfl, rfl⟩
    clear HF
    go_wp2_with fail
    refine Calls.mono HG.out ?_
    rintro e w2 ⟨v2, rfl, q2⟩
    have H2 : Hid _ := q2
    clear HG q2
    go_wp2_with fail
    go_ret2
    exact ⟨_, rfl, .inr ⟨rfl, H2.out⟩⟩
end
end Go.Proofs.Ytbkhhgaihhbhjaa
/- Changes and calls that are handed in. -/
namespace Go.Proofs.Ytbkhhgaihhbhjaa
open Go.ChangeShapes Go.WideShapes Go.ChangeAt Go.RowKit
set_option linter.unusedVariables false
set_option linter.unusedSimpArgs false
set_option maxRecDepth 100000
def Anyw (_ : Nat) : Prop := True
theorem fU8 {a : Int} (w : (Lit.int .u8 a).wf = true) : 0 ≤ a ∧ a < 256 := by
  have h : (decide (IntKind.u8.min ≤ a) && decide (a ≤ IntKind.u8.max)) = true := w
  rw [Bool.and_eq_true, decide_eq_true_eq, decide_eq_true_eq] at h
  have e1 : IntKind.u8.min = 0 := by decide
  have e2 : IntKind.u8.max = 255 := by decide
  omega
theorem underDelta : (Try.prog.underlying 35).map (fun | .struct fs => fs.toList.map (fun f => (f.type, f.offset)) | _ => []) = some [(3, 0), (33, 1), (33, 2)] := by kernel_rfl
theorem underOp : (Try.prog.underlying 45).map (fun | .struct fs => fs.toList.map (fun f => (f.type, f.offset)) | _ => []) = some [(5, 0), (3, 1), (25, 2)] := by kernel_rfl
theorem cDelta : Try.prog.cellsOf 35 = 3 := by kernel_rfl
theorem cOp : Try.prog.cellsOf 45 = 3 := by kernel_rfl
theorem cInt : Try.prog.cellsOf 3 = 1 := by kernel_rfl
theorem cDeltas : Try.prog.cellsOf 25 = 1 := by kernel_rfl
theorem cUB : Try.prog.cellsOf 5 = 1 := by kernel_rfl
theorem cStr : Try.prog.cellsOf 9 = 1 := by kernel_rfl
theorem cStrs : Try.prog.cellsOf 33 = 1 := by kernel_rfl
theorem bulk_mem {H : Type} {d : DataW H} {l : List (DataW H)} (h : d ∈ l) : Rows.uptoBulk d ≤ Rows.uptoBulkAll l := by
  induction l with
  | nil => cases h
  | cons x r ih =>
    simp only [Rows.uptoBulkAll]
    cases List.mem_cons.1 h with
    | inl e => subst e; omega
    | inr e => have := ih e; omega
theorem bulk_of {H : Type} {l : List (DataW H)} (hk : Rows.uptoSmall H l = true) {j : Nat} {d : DataW H} (hd : l[j]? = some d) : Rows.uptoBulk d ≤ 1048576 := by
  have h : Rows.uptoBulkAll l ≤ 1048576 := of_decide_eq_true hk
  have := bulk_mem (List.mem_of_getElem? hd)
  omega
theorem bulk_one {H : Type} (x : DataW H) : 1 ≤ Rows.uptoBulk x := by
  cases x with
  | lit l => cases l <;> simp [Rows.uptoBulk]
  | _ => simp [Rows.uptoBulk]
theorem bulk_sum {H : Type} (D : Nat → DataW H) (w : Nat → Nat) : ∀ l : List Nat, (∀ i ∈ l, w i ≤ Rows.uptoBulk (D i)) → (l.map w).sum ≤ Rows.uptoBulkAll (l.map D)
  | [], _ => by simp
  | a :: r, h => by
    have h1 := h a (by simp)
    have h2 := bulk_sum D w r fun i hi => h i (by simp [hi])
    simp only [List.map_cons, List.sum_cons, Rows.uptoBulkAll]
    omega
theorem bulk_len {H : Type} (l : List (DataW H)) : l.length ≤ Rows.uptoBulkAll l := by
  induction l with
  | nil => simp
  | cons x r ih =>
    have := bulk_one x
    simp only [Rows.uptoBulkAll, List.length_cons]; omega
theorem lines_cells {H : Type} {enc : TypeId × Value → H} {W : World} {fuel : Nat} {v : Value} {d : DataW H} {p : List MemPlace} (h : DataW.trod enc Try.prog W 0 (fun _ => true) true fuel 33 [v] = some (d, p)) :
    ∃ ls, Sl Anyw v ls W ∧ ls.length + 1 ≤ Rows.uptoBulk d := by
  rcases Deep.open_strs Try.underlying33 Try.underlying9 cStr h with ⟨hcs, hx⟩ | ⟨a, len, cap, m, Sx, hcs, _, hl, hm, hmm, hx, hcell⟩
  · simp only [List.cons.injEq, and_true] at hcs
    subst hcs
    exact ⟨[], Sl.nil _ _, bulk_one d⟩
  · simp only [List.cons.injEq, and_true] at hcs
    subst hcs
    simp only [if_true] at hmm
    subst hmm
    simp only [Prod.mk.injEq] at hx
    refine ⟨(List.range len).map Sx, ⟨some a, m, by simp, by simpa using hl, hm, (fun e => by cases e), fun i s hi => ?_⟩, ?_⟩
    · simp only [List.getElem?_map, Option.map_eq_some_iff] at hi
      obtain ⟨k, hk, rfl⟩ := hi
      obtain ⟨hlt, hk⟩ := List.getElem?_eq_some_iff.1 hk
      simp at hk hlt
      subst hk
      obtain ⟨b, off, spot⟩ := a
      have hspot : spot = none := by simpa [Addr.add] using World.cell?_spot (hcell 0 (by omega)).1
      subst hspot
      refine ⟨b, off, rfl, trivial, ?_⟩
      have := (hcell i (by omega)).1
      rw [add2] at this
      exact this
    · rw [hx.1]
      simp only [Rows.uptoBulk]
      have := bulk_len ((List.range len).map fun i => (DataW.lit (.string (Sx i).data.toList) : DataW H))
      simp only [List.length_map, List.length_range] at this ⊢
      omega
/-- What a change weighs. -/
def wD (d : Dl) : Nat := 1 + d.old.length + d.nw.length
theorem delta_cells {H : Type} {enc : TypeId × Value → H} {W : World} {fuel : Nat} {cs : List Value} {x : DataW H × List MemPlace} (h : DataW.trod enc Try.prog W 0 (fun _ => true) true fuel 35 cs = some x) :
    ∃ (c : Dv) (d : Dl), cs = [.int .i64 c.a, c.x, c.y] ∧ c.a = d.at_ ∧ Sl Anyw c.x d.old W ∧ Sl Anyw c.y d.nw W ∧ wD d ≤ Rows.uptoBulk x.1 := by
  have hu := underDelta
  rw [Option.map_eq_some_iff] at hu
  obtain ⟨ty, hty, hfs⟩ := hu
  match ty, hty, hfs with
  | .struct fs, hty, hfs =>
    simp only at hfs
    obtain ⟨xs, n, _, rfl, hcl, hxl, hf⟩ := DataW.trod_struct hty h
    rw [cDelta] at hcl
    match cs, hcl with
    | [k0, k1, k2], _ =>
      obtain ⟨fl⟩ := fs
      match fl, hfs with
      | [f0, f1, f2], hfs =>
        simp only [List.map_cons, List.map_nil, List.cons.injEq, Prod.mk.injEq, and_true] at hfs
        obtain ⟨⟨t0, o0⟩, ⟨t1, o1⟩, ⟨t2, o2⟩⟩ := hfs
        match xs, hxl with
        | [y0, y1, y2], _ =>
          have g0 := hf 0 f0 rfl
          have g1 := hf 1 f1 rfl
          have g2 := hf 2 f2 rfl
          rw [t0, o0, cInt] at g0
          rw [t1, o1, cStrs] at g1
          rw [t2, o2, cStrs] at g2
          obtain ⟨a0, e0, r0, w0⟩ := DataW.trod_int Try.underlying3 g0
          have g1' : DataW.trod enc Try.prog W 0 (fun _ => true) true n 33 [k1] = some (y1.1, y1.2) := g1
          have g2' : DataW.trod enc Try.prog W 0 (fun _ => true) true n 33 [k2] = some (y2.1, y2.2) := g2
          obtain ⟨l1, h1, h2⟩ := lines_cells g1'
          obtain ⟨l2, h3, h4⟩ := lines_cells g2'
          simp at e0
          refine ⟨⟨a0, k1, k2⟩, ⟨a0, l1, l2⟩, by rw [e0], rfl, h1, h3, ?_⟩
          show wD ⟨a0, l1, l2⟩ ≤ Rows.uptoBulk (DataW.agg [y0.1, y1.1, y2.1] : DataW H)
          simp only [Rows.uptoBulk, Rows.uptoBulkAll, wD]
          omega
/-- Changes that are handed in: they lie below B. -/
abbrev DArg (B : Nat) (v : Value) (ds : List Dl) (w : World) : Prop := Dr (fun k => k < B) (Sl fun k => k < B) v ds w
theorem DArg.below {B : Nat} {v : Value} {ds : List Dl} {w w1 : World} (h : DArg B v ds w) (k : Below B w w1) : DArg B v ds w1 := by
  obtain ⟨a, cap, cs, rfl, h1, h2, h3, h4, h5⟩ := h
  have sl : ∀ v ls, Sl (fun k => k < B) v ls w → Sl (fun k => k < B) v ls w1 := fun v ls q => by
    obtain ⟨a, cap, rfl, q1, q2, q3, q4⟩ := q
    refine ⟨a, cap, rfl, q1, q2, q3, fun i s hi => ?_⟩
    obtain ⟨g, o, e, p, c⟩ := q4 i s hi
    exact ⟨g, o, e, p, by rw [World.cell?_of_block (k.block g p)]; exact c⟩
  refine ⟨a, cap, cs, rfl, h1, h2, h3, fun j u hj => ?_, h5.imp sl⟩
  obtain ⟨g, o, e, p, c⟩ := h4 j u hj
  exact ⟨g, o, e, p, by rw [World.cell?_of_block (k.block g p)]; exact c⟩
theorem dels_cells {H : Type} {enc : TypeId × Value → H} {W : World} {fuel : Nat} {v : Value} {d : DataW H} {p : List MemPlace} (h : DataW.trod enc Try.prog W 0 (fun _ => true) true fuel 25 [v] = some (d, p)) :
    ∃ ds, DArg W.heap.size v ds W ∧ (ds.map wD).sum + 1 ≤ Rows.uptoBulk d := by
  rcases Deep.open_slice Try.underlying25 h with ⟨hcs, hx⟩ | ⟨a, len, cap, m, n, D, Pl, hcs, _, hl, hm, hmm, hx, hcell⟩
  · simp only [List.cons.injEq, and_true] at hcs
    subst hcs
    exact ⟨[], ⟨none, 0, [], rfl, by simp, by simp [maxLen], (fun _ => rfl), (fun j u hj => by cases hj), rfl, fun i d c hi => by cases hi⟩, bulk_one d⟩
  · simp only [List.cons.injEq, and_true] at hcs
    subst hcs
    simp only [if_true] at hmm
    subst hmm
    simp only [Prod.mk.injEq] at hx
    rw [cDelta] at hcell
    have each : ∀ i, i < m → ∃ o : Dv × Dl, (∀ (j : Nat) c, [Value.int .i64 o.1.a, o.1.x, o.1.y][j]? = some c → W.cell? ((a.add (i * 3)).add j) = some c) ∧ o.1.a = o.2.at_ ∧ Sl Anyw o.1.x o.2.old W ∧ Sl Anyw o.1.y o.2.nw W ∧ wD o.2 ≤ Rows.uptoBulk (D i) := fun i hi => by
      obtain ⟨cs', h1, h2⟩ := hcell i hi
      obtain ⟨c, d, e, r1⟩ := delta_cells h2
      obtain ⟨_, hlen, hc⟩ := World.cells?_some h1
      refine ⟨(c, d), fun j u hj => ?_, r1⟩
      rw [hc j (by have := (List.getElem?_eq_some_iff.1 hj).1; simpa using this), e]; exact hj
    haveI : Inhabited (Dv × Dl) := ⟨(⟨0, .slice none 0 0, .slice none 0 0⟩, ⟨0, [], []⟩)⟩
    obtain ⟨F, hF⟩ := Deep.choose_lt each
    have sl : ∀ {v ls}, Sl Anyw v ls W → Sl (fun k => k < W.heap.size) v ls W := fun q => q.mono fun k hk _ => hk
    refine ⟨(List.range len).map fun i => (F i).2, ⟨some a, m, (List.range len).map fun i => (F i).1, by simp, by simpa using hl, hm, (fun e => by cases e), fun j u hj => ?_, by simp, fun i d c h1 h2 => ?_⟩, ?_⟩
    · obtain ⟨b, off, spot⟩ := a
      have hjl := (List.getElem?_eq_some_iff.1 hj).1
      rw [flatV_len, List.length_map, List.length_range] at hjl
      have hs : spot = none := by simpa [Addr.add] using World.cell?_spot ((hF 0 (by omega)).1 0 _ rfl)
      subst hs
      have hi : j / 3 < len := by omega
      have q := (hF (j / 3) (by omega)).1
      have e : ∀ k, ((⟨b, off, none⟩ : Addr).add (j / 3 * 3)).add k = ⟨b, off + j / 3 * 3 + k, none⟩ := fun k => by rw [add2, add2]
      have hg : ((List.range len).map fun i => (F i).1)[j / 3]? = some (F (j / 3)).1 := by simp [hi]
      obtain ⟨p0, p1, p2⟩ := flatV_at hg
      have hcase : W.cell? ⟨b, off + j, none⟩ = some u := by
        rcases Nat.lt_or_ge (j % 3) 1 with r | r
        · have e3 : j = 3 * (j / 3) := by omega
          rw [e3] at hj; rw [p0] at hj; cases hj
          have := q 0 _ rfl; rw [e] at this; rw [show off + j = off + j / 3 * 3 + 0 by omega]; exact this
        · rcases Nat.lt_or_ge (j % 3) 2 with r2 | r2
          · have e3 : j = 3 * (j / 3) + 1 := by omega
            rw [e3] at hj; rw [p1] at hj; cases hj
            have := q 1 _ rfl; rw [e] at this; rw [show off + j = off + j / 3 * 3 + 1 by omega]; exact this
          · have e3 : j = 3 * (j / 3) + 2 := by omega
            rw [e3] at hj; rw [p2] at hj; cases hj
            have := q 2 _ rfl; rw [e] at this; rw [show off + j = off + j / 3 * 3 + 2 by omega]; exact this
      exact ⟨b, off, rfl, World.block_lt_of_cell? _ _ hcase, hcase⟩
    · simp only [List.getElem?_map, Option.map_eq_some_iff] at h1 h2
      obtain ⟨k, hk, rfl⟩ := h1
      obtain ⟨k', hk', rfl⟩ := h2
      rw [hk] at hk'; cases hk'
      obtain ⟨hlt, hk⟩ := List.getElem?_eq_some_iff.1 hk
      simp at hk hlt
      subst hk
      have q := hF i (by omega)
      exact ⟨q.2.1, sl q.2.2.1, sl q.2.2.2.1⟩
    · rw [hx.1]
      simp only [Rows.uptoBulk]
      have := bulk_sum D (fun i => wD (F i).2) (List.range len) fun i hi => (hF i (by have := List.mem_range.1 hi; omega)).2.2.2.2
      rw [List.map_map]
      have e : (wD ∘ fun i => (F i).2) = fun i => wD (F i).2 := rfl
      rw [e]
      omega
theorem dels_form {H : Type} {enc : TypeId × Value → H} {W : World} {base : Nat} {v : Value} {d : DataW H} {p : List MemPlace} (hval : Value.okWide Try.prog W .any base 25 v) (h : DataW.Trod enc Try.prog W 0 (fun _ => true) true 25 v d p) :
    ∃ ds, DArg W.heap.size v ds W ∧ (ds.map wD).sum + 1 ≤ Rows.uptoBulk d := by
  obtain ⟨a0, len0, cap0, rfl⟩ := okWide_slice Try.underlying25 hval
  obtain ⟨fuel, hf⟩ := h
  exact dels_cells hf
/-- A call that is handed in. -/
structure Op12 where
  kd : Nat
  n : Int
  v : Value
  ds : List Dl
/-- Calls that are handed in. -/
def OpL (B : Nat) (v : Value) (l : List Op12) (w : World) : Prop :=
  ∃ a cap, v = .slice a l.length cap ∧ l.length ≤ cap ∧ cap ≤ maxLen ∧ ∀ (i : Nat) (o : Op12), l[i]? = some o → ∃ g off, a = some ⟨g, off, none⟩ ∧ g < B ∧ w.cell? ⟨g, off + i * 3, none⟩ = some (.int .u8 o.kd) ∧ w.cell? ⟨g, off + i * 3 + 1, none⟩ = some (.int .i64 o.n) ∧ w.cell? ⟨g, off + i * 3 + 2, none⟩ = some o.v ∧ DArg B o.v o.ds w
theorem OpL.below {B : Nat} {v : Value} {l : List Op12} {w w1 : World} (h : OpL B v l w) (k : Below B w w1) : OpL B v l w1 := by
  obtain ⟨a, cap, rfl, h1, h2, h3⟩ := h
  refine ⟨a, cap, rfl, h1, h2, fun i o hi => ?_⟩
  obtain ⟨g, off, e, p, c0, c1, c2, q⟩ := h3 i o hi
  have e1 : ∀ j, w1.cell? ⟨g, j, none⟩ = w.cell? ⟨g, j, none⟩ := fun j => World.cell?_of_block (k.block g p)
  exact ⟨g, off, e, p, by rw [e1]; exact c0, by rw [e1]; exact c1, by rw [e1]; exact c2, q.below k⟩
theorem fI64 {a : Int} (w : (Lit.int .i64 a).wf = true) : -9223372036854775808 ≤ a ∧ a < 9223372036854775808 := by
  have h : (decide (IntKind.i64.min ≤ a) && decide (a ≤ IntKind.i64.max)) = true := w
  rw [Bool.and_eq_true, decide_eq_true_eq, decide_eq_true_eq] at h
  have e1 : IntKind.i64.min = -9223372036854775808 := by decide
  have e2 : IntKind.i64.max = 9223372036854775807 := by decide
  omega
theorem op_cells {H : Type} {enc : TypeId × Value → H} {W : World} {fuel : Nat} {cs : List Value} {x : DataW H × List MemPlace} (h : DataW.trod enc Try.prog W 0 (fun _ => true) true fuel 45 cs = some x) :
    ∃ o : Op12, cs = [.int .u8 o.kd, .int .i64 o.n, o.v] ∧ o.kd < 256 ∧ (-9223372036854775808 ≤ o.n ∧ o.n < 9223372036854775808) ∧ DArg W.heap.size o.v o.ds W ∧ (o.ds.map wD).sum ≤ Rows.uptoBulk x.1 := by
  have hu := underOp
  rw [Option.map_eq_some_iff] at hu
  obtain ⟨ty, hty, hfs⟩ := hu
  match ty, hty, hfs with
  | .struct fs, hty, hfs =>
    simp only at hfs
    obtain ⟨xs, n, _, rfl, hcl, hxl, hf⟩ := DataW.trod_struct hty h
    rw [cOp] at hcl
    match cs, hcl with
    | [k0, k1, k2], _ =>
      obtain ⟨fl⟩ := fs
      match fl, hfs with
      | [f0, f1, f2], hfs =>
        simp only [List.map_cons, List.map_nil, List.cons.injEq, Prod.mk.injEq, and_true] at hfs
        obtain ⟨⟨t0, o0⟩, ⟨t1, o1⟩, ⟨t2, o2⟩⟩ := hfs
        match xs, hxl with
        | [y0, y1, y2], _ =>
          have g0 := hf 0 f0 rfl
          have g1 := hf 1 f1 rfl
          have g2 := hf 2 f2 rfl
          rw [t0, o0, cUB] at g0
          rw [t1, o1, cInt] at g1
          rw [t2, o2, cDeltas] at g2
          obtain ⟨a0, e0, r0, w0⟩ := DataW.trod_int Try.underlying5 g0
          obtain ⟨a1, e1, r1, w1⟩ := DataW.trod_int Try.underlying3 g1
          have g2' : DataW.trod enc Try.prog W 0 (fun _ => true) true n 25 [k2] = some (y2.1, y2.2) := g2
          obtain ⟨ds, h1, h2⟩ := dels_cells g2'
          simp at e0 e1
          have u0 := fU8 w0
          refine ⟨⟨a0.toNat, a1, k2, ds⟩, ?_, by show a0.toNat < 256; omega, fI64 w1, h1, ?_⟩
          · simp only [Int.toNat_of_nonneg u0.1]
            rw [e0, e1]
          · show (ds.map wD).sum ≤ Rows.uptoBulk (DataW.agg [y0.1, y1.1, y2.1] : DataW H)
            simp only [Rows.uptoBulk, Rows.uptoBulkAll]
            omega
/-- What calls weigh. -/
def wO (l : List Op12) : Nat := (l.map fun o => (o.ds.map wD).sum).sum
theorem ops_form {H : Type} {enc : TypeId × Value → H} {W : World} {base : Nat} {v : Value} {d : DataW H} {p : List MemPlace} (hval : Value.okWide Try.prog W .any base 39 v) (h : DataW.Trod enc Try.prog W 0 (fun _ => true) true 39 v d p) :
    ∃ l : List Op12, OpL W.heap.size v l W ∧ (∀ o ∈ l, o.kd < 256 ∧ -9223372036854775808 ≤ o.n ∧ o.n < 9223372036854775808) ∧ wO l ≤ Rows.uptoBulk d ∧ l.length ≤ Rows.uptoBulk d := by
  obtain ⟨a0, len0, cap0, rfl⟩ := okWide_slice Try.underlying39 hval
  obtain ⟨fuel, hf⟩ := h
  rcases Deep.open_slice Try.underlying39 hf with ⟨hcs, hx⟩ | ⟨a, len, cap, m, n, D, Pl, hcs, _, hl, hm, hmm, hx, hcell⟩
  · simp [Value.cells] at hcs
    obtain ⟨rfl, rfl, rfl⟩ := hcs
    exact ⟨[], ⟨none, 0, rfl, by simp, by simp [maxLen], fun i t hi => by cases hi⟩, (fun o ho => by cases ho), by simp [wO], by simp⟩
  · simp [Value.cells] at hcs
    obtain ⟨rfl, rfl, rfl⟩ := hcs
    simp only [if_true] at hmm
    subst hmm
    simp only [Prod.mk.injEq] at hx
    rw [cOp] at hcell
    have each : ∀ i, i < m → ∃ o : Op12, (∀ (j : Nat) c, [Value.int .u8 o.kd, .int .i64 o.n, o.v][j]? = some c → W.cell? ((a.add (i * 3)).add j) = some c) ∧ o.kd < 256 ∧ (-9223372036854775808 ≤ o.n ∧ o.n < 9223372036854775808) ∧ DArg W.heap.size o.v o.ds W ∧ (o.ds.map wD).sum ≤ Rows.uptoBulk (D i) := fun i hi => by
      obtain ⟨cs', h1, h2⟩ := hcell i hi
      obtain ⟨o, e, r1⟩ := op_cells h2
      obtain ⟨_, hlen, hc⟩ := World.cells?_some h1
      refine ⟨o, fun j c hj => ?_, r1⟩
      rw [hc j (by have := (List.getElem?_eq_some_iff.1 hj).1; simpa using this), e]; exact hj
    haveI : Inhabited Op12 := ⟨⟨0, 0, .slice none 0 0, []⟩⟩
    obtain ⟨F, hF⟩ := Deep.choose_lt each
    refine ⟨(List.range len0).map F, ⟨some a, m, by simp, by simpa using hl, hm, fun i o hi => ?_⟩, fun o ho => ?_, ?_, ?_⟩
    · simp only [List.getElem?_map, Option.map_eq_some_iff] at hi
      obtain ⟨k, hk, rfl⟩ := hi
      obtain ⟨hlt, hk⟩ := List.getElem?_eq_some_iff.1 hk
      simp at hk hlt
      subst hk
      obtain ⟨b, off, spot⟩ := a
      have hs : spot = none := by simpa [Addr.add] using World.cell?_spot ((hF 0 (by omega)).1 0 _ rfl)
      subst hs
      have q := (hF i (by omega)).1
      have e : ∀ j, ((⟨b, off, none⟩ : Addr).add (i * 3)).add j = ⟨b, off + i * 3 + j, none⟩ := fun j => by rw [add2, add2]
      have z0 := q 0 _ rfl
      have z1 := q 1 _ rfl
      have z2 := q 2 _ rfl
      rw [e] at z0 z1 z2
      exact ⟨b, off, rfl, World.block_lt_of_cell? _ _ z0, z0, z1, z2, (hF i (by omega)).2.2.2.1⟩
    · obtain ⟨k, hk, rfl⟩ := List.mem_map.1 ho
      have hk' : k < len0 := by simpa using hk
      have q := hF k (by omega)
      exact ⟨q.2.1, q.2.2.1⟩
    · rw [hx.1]
      simp only [Rows.uptoBulk]
      have := bulk_sum D (fun i => ((F i).ds.map wD).sum) (List.range len0) fun i hi => (hF i (by have := List.mem_range.1 hi; omega)).2.2.2.2
      unfold wO
      rw [List.map_map]
      have e : ((fun o => (o.ds.map wD).sum) ∘ F) = fun i => ((F i).ds.map wD).sum := rfl
      rw [e]
      omega
    · rw [hx.1]
      simp only [Rows.uptoBulk, List.length_map, List.length_range]
      have := bulk_len ((List.range len0).map D)
      simp at this
      omega
end Go.Proofs.Ytbkhhgaihhbhjaa
/- Each call on both trees. -/
namespace Go.Proofs.Ytbkhhgaihhbhjaa
open Go.ChangeShapes Go.WideShapes Go.ChangeAt Go.RowKit Go.Maps Go.MapKept
set_option linter.unusedVariables false
set_option linter.unusedSimpArgs false
set_option maxRecDepth 100000
section
variable {B C r t : Nat} {m m' : Tr} {w w1 : World}
/-- Both trees tell the same. -/
structure Bt (B C t r : Nat) (m : Tr) (w : World) : Prop where
  tw : Tw B C t m w
  rw : Rw B C r m w
  inw : Inw m
  hB : B ≤ w.heap.size
  hC : C ≤ w.heap.size
  few : m.L.length ≤ 240
  nx : m.next ≤ 9000
/-- State 0 is the first. -/
def Rt0 (L : List St) : Prop := ∃ s, look L 0 = some s ∧ s.fr = -1
theorem rt0_led {L : List St} (l : List Int) (top : Int) (h : Rt0 L) : Rt0 (led L l top) := by
  obtain ⟨s, q1, q2⟩ := h
  obtain ⟨s', p1, p2⟩ := fr_led (y := top) l L 0 s q1
  exact ⟨s', p1, p2.trans q2⟩
theorem rt0_add {ds : List Dl} (I : Inv m) (h : Rt0 m.L) : Rt0 (addT m ds).L := by
  obtain ⟨s, q1, q2⟩ := h
  have hlt := I.lt
  refine ⟨_, by rw [addT_look I, if_neg (by omega), q1]; rfl, ?_⟩
  split
  · exact q2
  · exact q2
/-- What a step keeps. -/
structure Kps (m m' : Tr) : Prop where
  inw : Inw m'
  nx : m'.next = m.next
  mo : m'.most = m.most
  len : m'.L.length = m.L.length
  rt : Rt0 m.L → Rt0 m'.L
theorem Kps.refl (h : Inw m) : Kps m m := ⟨h, rfl, rfl, rfl, id⟩
theorem Kps.go (h : Inw m) {seq top : Int} {l1 l2 : List Int} (hm : Meet m.L m.now seq top l1 l2) (hs : look m.L seq ≠ none) : Kps m { m with L := led m.L l2 top, now := seq } := ⟨h.go hm hs, rfl, rfl, led_len _ _ _, rt0_led _ _⟩
/-- What a call of the document's comes to. -/
def Rst (g : FuncId) (xs : Array Value) (B C r : Nat) (m m' : Tr) (ds : List Dl) (err : Int) : Prop := ∀ w, Rw B C r m w → C ≤ w.heap.size → B ≤ w.heap.size → Calls Try.prog g xs w fun e w' => ∃ u, e = .returned (.tuple #[u, .int .i64 err]) ∧ GoneR B C r w u ds m' w'
/-- What both told. -/
def Alike (v u : Value) (w : World) : Prop := ∃ ds, Dw 0 v ds w ∧ Dw 0 u ds w
/-- What is left behind the document's call. -/
def Aft (g : FuncId) (xs : Array Value) (B C t r : Nat) (m : Tr) (w : World) (err : Int) (v : Value) (w1 : World) : Prop :=
  0 ≤ err ∧ err < 1000 ∧ (∀ b cs, Lc 45 b cs w → Lc 45 b cs w1) ∧ Calls Try.prog g xs w1 fun e w2 => ∃ u, e = .returned (.tuple #[u, .int .i64 err]) ∧ Alike v u w2 ∧ ∃ m', Kps m m' ∧ Bt B C t r m' w2 ∧ Below B w w2
theorem aft_of (h : Bt B C t r m w) {g : FuncId} {xs : Array Value} {v : Value} {ds : List Dl} {err : Int} (he : 0 ≤ err ∧ err < 1000) (q : Gone B C t w v ds m' w1) (kp : Kps m m') (hr : Rst g xs B C r m m' ds err) : Aft g xs B C t r m w err v w1 := by
  obtain ⟨q1, q2, q3⟩ := q
  have hs := q3.size
  refine ⟨he.1, he.2, fun b cs hb => hb.ff q3 (fun cur fr q => by rcases q with q | q <;> cases q), (hr w1 (h.rw.ff q3) (Nat.le_trans h.hC hs) (Nat.le_trans h.hB hs)).mono ?_⟩
  rintro e w2 ⟨u, rfl, p1, p2, p3⟩
  have hs2 := p3.size
  refine ⟨u, rfl, ⟨ds, (q1.ff p3 (tq_of (by decide) (by decide)) (tq_of (by decide) (by decide))).zero, p1.zero⟩, m', kp, ⟨q2.ffq p3, p2, kp.inw, by have := h.hB; omega, by have := h.hC; omega, by rw [kp.len]; exact h.few, by rw [kp.nx]; exact h.nx⟩, (q3.below h.hB).trans (p3.below (Nat.le_trans h.hB hs))⟩
theorem same_alike {v u : Value} (h : Alike v u w) : Calls Try.prog 20 #[v, u] w fun e w' => e = .returned (.bool true) ∧ ∃ q, w' = w.drewN q := by
  obtain ⟨ds, h1, h2⟩ := h
  exact same_eq (okRow 0 0) (okRow 0 0) h1.dr h2.dr
theorem gone_kp {v : Value} (h : Tw B C t m w) (k : Kp w w1) (hv : v = .slice none 0 0) : Gone B C t w v [] m w1 := by subst hv; exact ⟨Dx.nil _ _ _, h.kp k, Ff.kp k⟩
theorem goneR_kp {v : Value} (h : Rw B C r m w) (k : Kp w w1) (hv : v = .slice none 0 0) : GoneR B C r w v [] m w1 := by subst hv; exact ⟨Dx.nil _ _ _, h.kp k, Ff.kp k⟩
theorem undo_both (h : Bt B C t r m w) : Calls Try.prog 17 #[.pointer (some ⟨t, 0, none⟩)] w fun e w1 => ∃ v err, e = .returned (.tuple #[v, .int .u16 err]) ∧ Aft 41 #[.pointer (some ⟨r, 0, none⟩)] B C t r m w err v w1 := by
  have I := h.inw
  have F := I.inv.fam
  have hn := h.nx
  have hfw := h.few
  obtain ⟨s, hs⟩ := Option.ne_none_iff_exists'.1 I.inv.nw
  have hrg := rg_of (F.rg (by omega) I.inv.nw)
  by_cases he : s.fr = -1
  · refine (undo_end h.tw hrg hs he).mono ?_
    rintro e w' ⟨rfl, k, rfl⟩
    refine ⟨_, _, rfl, aft_of h ⟨by decide, by decide⟩ (gone_kp h.tw (kp_drewN _ _) rfl) (Kps.refl I) fun w2 h1 _ _ => ?_⟩
    refine (rundo_end h1 I.inv (by omega) hs he).mono ?_
    rintro e w' ⟨rfl, k⟩
    exact ⟨_, rfl, goneR_kp h1 k rfl⟩
  · refine (undo_any h.tw hrg hs he (F.few _ _ hs) (by decide)).mono ?_
    rintro e w' ⟨v, rfl, q⟩
    refine ⟨_, _, rfl, aft_of h ⟨by decide, by decide⟩ q ⟨I.up hs he, rfl, rfl, rfl, id⟩ fun w2 h1 _ hB => ?_⟩
    have := rundo_any h1 I.inv (by omega) hB hs he
    rw [I.same hs he] at this
    exact this
theorem redo_both (h : Bt B C t r m w) : Calls Try.prog 19 #[.pointer (some ⟨t, 0, none⟩)] w fun e w1 => ∃ v err, e = .returned (.tuple #[v, .int .u16 err]) ∧ Aft 42 #[.pointer (some ⟨r, 0, none⟩)] B C t r m w err v w1 := by
  have I := h.inw
  have F := I.inv.fam
  have hn := h.nx
  have hfw := h.few
  obtain ⟨s, hs⟩ := Option.ne_none_iff_exists'.1 I.inv.nw
  have hrg := rg_of (F.rg (by omega) I.inv.nw)
  by_cases he : s.on = -1
  · refine (redo_end h.tw hrg hs he).mono ?_
    rintro e w' ⟨rfl, k, rfl⟩
    refine ⟨_, _, rfl, aft_of h ⟨by decide, by decide⟩ (gone_kp h.tw (kp_drewN _ _) rfl) (Kps.refl I) fun w2 h1 _ _ => ?_⟩
    refine (rredo_end h1 I.inv (by omega) hs he).mono ?_
    rintro e w' ⟨rfl, k⟩
    exact ⟨_, rfl, goneR_kp h1 k rfl⟩
  · obtain ⟨s', hs', hf'⟩ := F.on _ _ hs he
    refine (redo_any h.tw hrg hs he (rg_of (F.rg (by omega) (by rw [hs']; simp))) hs' (F.few _ _ hs') (by decide)).mono ?_
    rintro e w' ⟨v, rfl, q⟩
    refine ⟨_, _, rfl, aft_of h ⟨by decide, by decide⟩ q ⟨I.down hs he, rfl, rfl, rfl, id⟩ fun w2 h1 _ hB => ?_⟩
    exact rredo_any h1 I.inv (by omega) hB hs he hs'
theorem went_aft (h : Bt B C t r m w) {g : FuncId} {xs : Array Value} {v : Value} {seq : Int} (hs : look m.L seq ≠ none) (q : Went B C t w v m seq w1)
    (hr : ∀ w, Rw B C r m w → C ≤ w.heap.size → B ≤ w.heap.size → Calls Try.prog g xs w fun e w' => ∃ u, e = .returned (.tuple #[u, .int .i64 0]) ∧ WentR B C r w u m seq w') : Aft g xs B C t r m w 0 v w1 := by
  obtain ⟨top, l1, l2, hm, q⟩ := q
  refine aft_of h ⟨by decide, by decide⟩ q (Kps.go h.inw hm hs) fun w2 h1 hC hB => ?_
  refine (hr w2 h1 hC hB).mono ?_
  rintro e w' ⟨u, rfl, top', l1', l2', hm', p⟩
  obtain ⟨rfl, rfl, rfl⟩ := h.inw.inv.fam.meet_one hm hm'
  exact ⟨u, rfl, p⟩
theorem go_both (h : Bt B C t r m w) {seq : Int} (hr : Rg seq) : Calls Try.prog 18 #[.pointer (some ⟨t, 0, none⟩), .int .i64 seq] w fun e w1 => ∃ v err, e = .returned (.tuple #[v, .int .u16 err]) ∧ Aft 43 #[.pointer (some ⟨r, 0, none⟩), .int .i64 seq] B C t r m w err v w1 := by
  have I := h.inw
  have F := I.inv.fam
  have hn := h.nx
  have hfw := h.few
  by_cases hs : look m.L seq = none
  · refine (go_none h.tw hr hs).mono ?_
    rintro e w' ⟨rfl, rfl⟩
    refine ⟨_, _, rfl, aft_of h ⟨by decide, by decide⟩ (gone_kp h.tw (Below.refl _ _) rfl) (Kps.refl I) fun w2 h1 _ _ => ?_⟩
    refine (rgo_none h1 (by omega) I.inv hs).mono ?_
    rintro e w' ⟨rfl, rfl⟩
    exact ⟨_, rfl, goneR_kp h1 (Below.refl _ _) rfl⟩
  · refine (go_any h.tw h.hC F (by omega) I.inv.nw hs).mono ?_
    rintro e w' ⟨v, rfl, q⟩
    exact ⟨_, _, rfl, went_aft h hs q fun w2 h1 hC hB => rgo_any h1 hC hB I (by omega) (by omega) hs⟩
theorem led_aft (h : Bt B C t r m w) {g : FuncId} {xs : Array Value} {v : Value} {err seq : Int} (he : 0 ≤ err ∧ err < 1000) (hs : err = 0 → look m.L seq ≠ none) (q : Led B C t w m err seq v w1)
    (hr : ∀ w, Rw B C r m w → C ≤ w.heap.size → B ≤ w.heap.size → Calls Try.prog g xs w fun e w' => ∃ u, e = .returned (.tuple #[u, .int .i64 err]) ∧ LedR B C r w m err seq u w') : Aft g xs B C t r m w err v w1 := by
  rcases q with ⟨h1, h2, h3⟩ | ⟨rfl, q⟩
  · refine aft_of h he (gone_kp h.tw h3 h2) (Kps.refl h.inw) fun w2 j1 hC hB => ?_
    refine (hr w2 j1 hC hB).mono ?_
    rintro e w' ⟨u, rfl, ⟨_, p1, p2⟩ | ⟨p, _⟩⟩
    · exact ⟨u, rfl, goneR_kp j1 p2 p1⟩
    · exact absurd p h1
  · refine went_aft h (hs rfl) q fun w2 j1 hC hB => ?_
    refine (hr w2 j1 hC hB).mono ?_
    rintro e w' ⟨u, rfl, ⟨p, _⟩ | ⟨_, p⟩⟩
    · exact absurd rfl p
    · exact ⟨u, rfl, p⟩
theorem later_both (h : Bt B C t r m w) (n : Int) : Calls Try.prog 15 #[.pointer (some ⟨t, 0, none⟩), .int .i64 n] w fun e w1 => ∃ v err, e = .returned (.tuple #[v, .int .u16 err]) ∧ Aft 45 #[.pointer (some ⟨r, 0, none⟩), .int .i64 n] B C t r m w err v w1 := by
  have I := h.inw
  have hn := h.nx
  have hfw := h.few
  obtain ⟨k, hk⟩ := idx_of I.inv.nw
  have hkl := (List.getElem?_eq_some_iff.1 hk).1
  rw [List.length_map] at hkl
  obtain ⟨err, seq, he, hs, hc⟩ : ∃ err seq : Int, (0 ≤ err ∧ err < 1000) ∧ (err = 0 → look m.L seq ≠ none) ∧ ((n < 1 ∧ err = 1) ∨ (1 ≤ n ∧ k + 1 = m.L.length ∧ err = 121) ∨ (1 ≤ n ∧ err = 0 ∧ ∃ j : Nat, min n ((m.L.length - (k + 1) : Nat) : Int) = (j : Int) + 1 ∧ (m.L.map St.seq)[k + 1 + j]? = some seq)) := by
    by_cases h1 : n < 1
    · exact ⟨1, 0, by decide, fun q => absurd q (by decide), .inl ⟨h1, rfl⟩⟩
    · by_cases h2 : k + 1 = m.L.length
      · exact ⟨121, 0, by decide, fun q => absurd q (by decide), .inr (.inl ⟨by omega, h2, rfl⟩)⟩
      · obtain ⟨j, hj⟩ : ∃ j : Nat, min n ((m.L.length - (k + 1) : Nat) : Int) = (j : Int) + 1 := ⟨(min n ((m.L.length - (k + 1) : Nat) : Int) - 1).toNat, by omega⟩
        have hlt : k + 1 + j < (m.L.map St.seq).length := by rw [List.length_map]; omega
        exact ⟨0, (m.L.map St.seq)[k + 1 + j], by decide, fun _ => look_ne.2 (List.getElem_mem hlt), .inr (.inr ⟨by omega, rfl, j, hj, List.getElem?_eq_getElem hlt⟩)⟩
  refine (later_any h.tw h.hC I.inv (by omega) (by omega) hk hc).mono ?_
  rintro e w' ⟨v, rfl, q⟩
  exact ⟨_, _, rfl, led_aft h he hs q fun w2 h1 hC hB => rlater_any h1 hC hB I (by omega) (by omega) hk hc⟩
theorem earlier_both (h : Bt B C t r m w) (n : Int) : Calls Try.prog 13 #[.pointer (some ⟨t, 0, none⟩), .int .i64 n] w fun e w1 => ∃ v err, e = .returned (.tuple #[v, .int .u16 err]) ∧ Aft 44 #[.pointer (some ⟨r, 0, none⟩), .int .i64 n] B C t r m w err v w1 := by
  have I := h.inw
  have hn := h.nx
  have hfw := h.few
  obtain ⟨k, hk⟩ := idx_of I.inv.nw
  have hkl := (List.getElem?_eq_some_iff.1 hk).1
  rw [List.length_map] at hkl
  have hrev : ∀ i : Nat, i < m.L.length → (m.L.map St.seq).reverse[m.L.length - 1 - i]? = (m.L.map St.seq)[i]? := fun i hi => by
    rw [List.getElem?_reverse (by rw [List.length_map]; omega), List.length_map]
    congr 1; omega
  have hk' : (m.L.map St.seq).reverse[m.L.length - 1 - k]? = some m.now := by rw [hrev k hkl, hk]
  obtain ⟨err, seq, he, hs, hc⟩ : ∃ err seq : Int, (0 ≤ err ∧ err < 1000) ∧ (err = 0 → look m.L seq ≠ none) ∧ ((n < 1 ∧ err = 1) ∨ (1 ≤ n ∧ k = 0 ∧ err = 121) ∨ (1 ≤ n ∧ err = 0 ∧ ∃ j : Nat, min n (k : Int) = (j : Int) + 1 ∧ (m.L.map St.seq)[k - (j + 1)]? = some seq)) := by
    by_cases h1 : n < 1
    · exact ⟨1, 0, by decide, fun q => absurd q (by decide), .inl ⟨h1, rfl⟩⟩
    · by_cases h2 : k = 0
      · exact ⟨121, 0, by decide, fun q => absurd q (by decide), .inr (.inl ⟨by omega, h2, rfl⟩)⟩
      · obtain ⟨j, hj⟩ : ∃ j : Nat, min n (k : Int) = (j : Int) + 1 := ⟨(min n (k : Int) - 1).toNat, by omega⟩
        have hlt : k - (j + 1) < (m.L.map St.seq).length := by rw [List.length_map]; omega
        exact ⟨0, (m.L.map St.seq)[k - (j + 1)], by decide, fun _ => look_ne.2 (List.getElem_mem hlt), .inr (.inr ⟨by omega, rfl, j, hj, List.getElem?_eq_getElem hlt⟩)⟩
  have hc' : (n < 1 ∧ err = 1) ∨ (1 ≤ n ∧ m.L.length - 1 - k + 1 = m.L.length ∧ err = 121) ∨ (1 ≤ n ∧ err = 0 ∧ ∃ j : Nat, min n ((m.L.length - (m.L.length - 1 - k + 1) : Nat) : Int) = (j : Int) + 1 ∧ (m.L.map St.seq).reverse[m.L.length - 1 - k + 1 + j]? = some seq) := by
    rcases hc with q | ⟨q1, q2, q3⟩ | ⟨q1, q2, j, q3, q4⟩
    · exact .inl q
    · exact .inr (.inl ⟨q1, by omega, q3⟩)
    · refine .inr (.inr ⟨q1, q2, j, ?_, ?_⟩)
      · rw [show m.L.length - (m.L.length - 1 - k + 1) = k by omega]; exact q3
      · rw [← q4, ← hrev (k - (j + 1)) (by omega)]
        congr 1; omega
  refine (earlier_any h.tw h.hC I.inv (by omega) (by omega) hk' hc').mono ?_
  rintro e w' ⟨v, rfl, q⟩
  exact ⟨_, _, rfl, led_aft h he hs q fun w2 h1 hC hB => rearlier_any h1 hC hB I (by omega) (by omega) hk hc⟩
theorem DArg.ff {T : Obj → Prop} {v : Value} {ds : List Dl} (h : DArg B v ds w) (k : Ff T B w w1) : DArg B v ds w1 := by
  obtain ⟨a, cap, cs, rfl, h1, h2, h3, h4, h5⟩ := h
  refine ⟨a, cap, cs, rfl, h1, h2, h3, fun j u hj => ?_, h5.imp fun v ls q => q.fr k fun g hg q => by obtain ⟨q, _⟩ := q; omega⟩
  obtain ⟨g, o, e, p, c⟩ := h4 j u hj
  exact ⟨g, o, e, p, by rw [World.cell?_of_block (k.block g (World.block_lt_of_cell? _ _ c) (fun q => by obtain ⟨q, _⟩ := q; omega))]; exact c⟩
/-- What is left behind the document's Add. -/
def AftA (B t r : Nat) (m : Tr) (dv : Value) (ds : List Dl) (w w1 : World) : Prop :=
  (∀ b cs, Lc 45 b cs w → Lc 45 b cs w1) ∧ ∀ z, Kp w1 z → Calls Try.prog 46 #[.pointer (some ⟨r, 0, none⟩), dv] z fun e w2 => e = .returned (.int .i64 m.next) ∧ Bt B w2.heap.size t r (addT m ds) w2 ∧ Below B w w2
theorem add_both (h : Bt B C t r m w) (hl : m.L.length ≤ 239) (hn : m.next ≤ 8999) (hm : (m.L.length : Int) + 1 ≤ m.most) {dv : Value} {ds : List Dl} (hd : DArg B dv ds w) (hf : Few 2000 ds) :
    Calls Try.prog 12 #[.pointer (some ⟨t, 0, none⟩), dv] w fun e w1 => e = .returned (.int .i64 m.next) ∧ AftA B t r m dv ds w w1 := by
  have I := h.inw
  refine (add_few h.tw I.inv.fam (by omega) I.inv.nodup I.inv.nw hm h.hB (okSl B) hd hf (by decide)).mono ?_
  rintro e w1 ⟨rfl, q1, q2⟩
  refine ⟨rfl, fun b cs hb => hb.ff q2 (fun cur fr q => by rcases q with q | q <;> cases q), fun z kz => ?_⟩
  have hs := q2.size
  have hz := kz.size
  have hB1 : B ≤ w1.heap.size := Nat.le_trans h.hB hs
  refine (radd_few ((h.rw.ff q2).kp kz) I.inv (by omega) (by omega) hm (Nat.le_trans hB1 hz) (okSl B) ((hd.below (q2.below h.hB)).below (kz.mono hB1)) ?_ ?_ hf (by decide)).mono ?_
  · intro v ls w w' hx k
    exact hx.fr k fun g hg q => by obtain ⟨q, _⟩ := q; omega
  · intro w w' k hx
    exact DArg.ff hx k
  rintro e w2 ⟨rfl, p1, p2⟩
  have hs2 := p2.size
  exact ⟨rfl, ⟨((q1.kp kz).ffq p2).up (by omega), p1, I.add hf, by omega, Nat.le_refl _, by rw [addT_len]; omega, by show m.next + 1 ≤ 9000; omega⟩, ((q2.below h.hB).trans (kz.mono hB1)).trans (p2.below (Nat.le_trans hB1 hz))⟩
end
end Go.Proofs.Ytbkhhgaihhbhjaa
/- A call on both. -/
namespace Go.Proofs.Ytbkhhgaihhbhjaa
open Go.ChangeShapes Go.WideShapes Go.ChangeAt Go.RowKit Go.Maps Go.MapKept
set_option linter.unusedVariables false
set_option linter.unusedSimpArgs false
set_option maxRecDepth 100000
section
variable {B C r t : Nat} {m m' : Tr} {w w1 : World}
/-- What a call leaves. -/
structure Stp (m m' : Tr) : Prop where
  nx : m'.next ≤ m.next + 1
  mo : m'.most = m.most
  len : m'.L.length ≤ m.L.length + 1
  rt : Rt0 m.L → Rt0 m'.L
theorem Kps.stp (h : Kps m m') : Stp m m' := ⟨by rw [h.nx]; omega, h.mo, by rw [h.len]; omega, h.rt⟩
theorem Bt.kp (h : Bt B C t r m w) (k : Kp w w1) : Bt B C t r m w1 := ⟨h.tw.kp k, h.rw.kp k, h.inw, Nat.le_trans h.hB k.size, Nat.le_trans h.hC k.size, h.few, h.nx⟩
def Dne (B t r : Nat) (m : Tr) (w w' : World) : Prop := ∃ C m', Bt B C t r m' w' ∧ Stp m m' ∧ Below B w w'
set_option maxHeartbeats 16000000 in
theorem does_any (h : Bt B C t r m w) (hl : m.L.length ≤ 199) (hn : m.next ≤ 8999) (hm : (m.L.length : Int) + 1 ≤ m.most) {kd n : Int} (hk0 : 0 ≤ kd) (hk1 : kd < 256) (hr : Rg n) {dv : Value} {ds : List Dl} (hd : DArg B dv ds w) (hf : Few 2000 ds) :
    Calls Try.prog 23 #[.pointer (some ⟨t, 0, none⟩), .pointer (some ⟨r, 0, none⟩), .agg #[.int .u8 kd, .int .i64 n, dv]] w fun e w' => e = .returned (.bool true) ∧ Dne B t r m w w' := by
  obtain ⟨W, hW⟩ : ∃ W, W = w.alloc (.cells #[.int .u8 kd, .int .i64 n, dv] 45) := ⟨_, rfl⟩
  have kW : Kp w W := by rw [hW]; exact kp_alloc _ _
  have lW : Lc 45 w.heap.size [.int .u8 kd, .int .i64 n, dv] W := by rw [hW]; exact Lc.new _ _ _
  have HB : Hid (Bt B C t r m W) := h.kp kW
  have HL : Hid (Lc 45 w.heap.size [.int .u8 kd, .int .i64 n, dv] W ∧ Kp w W ∧ DArg B dv ds W ∧ Few 2000 ds ∧ m.L.length ≤ 199 ∧ m.next ≤ 8999 ∧ (m.L.length : Int) + 1 ≤ m.most ∧ B ≤ w.heap.size) := ⟨lW, kW, hd.below (kW.mono h.hB), hf, hl, hn, hm, h.hB⟩
  have HW : Hid (W = w.alloc (.cells #[.int .u8 kd, .int .i64 n, dv] 45)) := hW
  have b0 := lW.at (j := 0) rfl
  have b1 := lW.at (j := 1) rfl
  have b2 := lW.at (j := 2) rfl
  obtain ⟨da, dn, dc, rfl⟩ : ∃ a n c, dv = .slice a n c := by obtain ⟨a, c, q, _⟩ := hd.form; exact ⟨a, _, c, q⟩
  clear h hl hn hm hd hf kW lW hW
  go_enter Try.func23, Try.ntmps23
  go_upto_region 1 with fail
  rw [← HW.out]
  clear HW
  rcases (by omega : kd % 9 = 3 ∨ kd % 9 = 4 ∨ kd % 9 = 5 ∨ kd % 9 = 6 ∨ kd % 9 = 7 ∨ kd % 9 = 8 ∨ kd % 9 < 3) with q | q | q | q | q | q | q
  · have d3 : (kd % 9 == 3) = true := by rw [q]; rfl
    have H1 : Hid _ := undo_both HB.out
    clear HB q
    go_wp2_with fail
    refine Calls.mono H1.out ?_
    rintro e w1 ⟨v1, err, rfl, he0, he1, hbx, hc⟩
    have HC : Hid _ := hc
    have lx := hbx _ _ HL.out.1
    have bb0 := lx.at (j := 0) rfl
    have bb1 := lx.at (j := 1) rfl
    have dE : (err == err) = true := beq_self_eq_true _
    clear H1 hc hbx lx
    go_wp2_with fail
    refine Calls.mono HC.out ?_
    rintro e w2 ⟨u1, rfl, al, m1, kps, bt, bl⟩
    have HS : Hid _ := same_alike al
    have H2 : Hid (Bt B C t r m1 w2 ∧ Kps m m1 ∧ Below B W w2) := ⟨bt, kps, bl⟩
    clear HC al bt kps bl
    go_wp2_with fail
    refine Calls.mono HS.out ?_
    rintro e w3 ⟨rfl, q3, rfl⟩
    clear HS
    go_wp2_with fail
    go_ret
    exact ⟨rfl, C, m1, H2.out.1.kp (kp_drewN _ _), H2.out.2.1.stp, ((HL.out.2.1.mono HL.out.2.2.2.2.2.2.2).trans H2.out.2.2).trans ((kp_drewN _ _).mono H2.out.1.hB)⟩
  · have d3 : (kd % 9 == 3) = false := by rw [q]; rfl
    have d4 : (kd % 9 == 4) = true := by rw [q]; rfl
    have H1 : Hid _ := redo_both HB.out
    clear HB q
    go_wp2_with fail
    refine Calls.mono H1.out ?_
    rintro e w1 ⟨v1, err, rfl, he0, he1, hbx, hc⟩
    have HC : Hid _ := hc
    have lx := hbx _ _ HL.out.1
    have bb0 := lx.at (j := 0) rfl
    have bb1 := lx.at (j := 1) rfl
    have dE : (err == err) = true := beq_self_eq_true _
    clear H1 hc hbx lx
    go_wp2_with fail
    refine Calls.mono HC.out ?_
    rintro e w2 ⟨u1, rfl, al, m1, kps, bt, bl⟩
    have HS : Hid _ := same_alike al
    have H2 : Hid (Bt B C t r m1 w2 ∧ Kps m m1 ∧ Below B W w2) := ⟨bt, kps, bl⟩
    clear HC al bt kps bl
    go_wp2_with fail
    refine Calls.mono HS.out ?_
    rintro e w3 ⟨rfl, q3, rfl⟩
    clear HS
    go_wp2_with fail
    go_ret
    exact ⟨rfl, C, m1, H2.out.1.kp (kp_drewN _ _), H2.out.2.1.stp, ((HL.out.2.1.mono HL.out.2.2.2.2.2.2.2).trans H2.out.2.2).trans ((kp_drewN _ _).mono H2.out.1.hB)⟩
  · have d3 : (kd % 9 == 3) = false := by rw [q]; rfl
    have d4 : (kd % 9 == 4) = false := by rw [q]; rfl
    have d5 : (kd % 9 == 5) = true := by rw [q]; rfl
    have H1 : Hid _ := go_both HB.out hr
    clear HB q
    go_wp2_with fail
    refine Calls.mono H1.out ?_
    rintro e w1 ⟨v1, err, rfl, he0, he1, hbx, hc⟩
    have HC : Hid _ := hc
    have lx := hbx _ _ HL.out.1
    have bb0 := lx.at (j := 0) rfl
    have bb1 := lx.at (j := 1) rfl
    have dE : (err == err) = true := beq_self_eq_true _
    clear H1 hc hbx lx
    go_wp2_with fail
    refine Calls.mono HC.out ?_
    rintro e w2 ⟨u1, rfl, al, m1, kps, bt, bl⟩
    have HS : Hid _ := same_alike al
    have H2 : Hid (Bt B C t r m1 w2 ∧ Kps m m1 ∧ Below B W w2) := ⟨bt, kps, bl⟩
    clear HC al bt kps bl
    go_wp2_with fail
    refine Calls.mono HS.out ?_
    rintro e w3 ⟨rfl, q3, rfl⟩
    clear HS
    go_wp2_with fail
    go_ret
    exact ⟨rfl, C, m1, H2.out.1.kp (kp_drewN _ _), H2.out.2.1.stp, ((HL.out.2.1.mono HL.out.2.2.2.2.2.2.2).trans H2.out.2.2).trans ((kp_drewN _ _).mono H2.out.1.hB)⟩
  · have d3 : (kd % 9 == 3) = false := by rw [q]; rfl
    have d4 : (kd % 9 == 4) = false := by rw [q]; rfl
    have d5 : (kd % 9 == 5) = false := by rw [q]; rfl
    have d6 : (kd % 9 == 6) = true := by rw [q]; rfl
    have H1 : Hid _ := earlier_both HB.out n
    clear HB q
    go_wp2_with fail
    refine Calls.mono H1.out ?_
    rintro e w1 ⟨v1, err, rfl, he0, he1, hbx, hc⟩
    have HC : Hid _ := hc
    have lx := hbx _ _ HL.out.1
    have bb0 := lx.at (j := 0) rfl
    have bb1 := lx.at (j := 1) rfl
    have dE : (err == err) = true := beq_self_eq_true _
    clear H1 hc hbx lx
    go_wp2_with fail
    refine Calls.mono HC.out ?_
    rintro e w2 ⟨u1, rfl, al, m1, kps, bt, bl⟩
    have HS : Hid _ := same_alike al
    have H2 : Hid (Bt B C t r m1 w2 ∧ Kps m m1 ∧ Below B W w2) := ⟨bt, kps, bl⟩
    clear HC al bt kps bl
    go_wp2_with fail
    refine Calls.mono HS.out ?_
    rintro e w3 ⟨rfl, q3, rfl⟩
    clear HS
    go_wp2_with fail
    go_ret
    exact ⟨rfl, C, m1, H2.out.1.kp (kp_drewN _ _), H2.out.2.1.stp, ((HL.out.2.1.mono HL.out.2.2.2.2.2.2.2).trans H2.out.2.2).trans ((kp_drewN _ _).mono H2.out.1.hB)⟩
  · have d3 : (kd % 9 == 3) = false := by rw [q]; rfl
    have d4 : (kd % 9 == 4) = false := by rw [q]; rfl
    have d5 : (kd % 9 == 5) = false := by rw [q]; rfl
    have d6 : (kd % 9 == 6) = false := by rw [q]; rfl
    have d7 : (kd % 9 == 7) = true := by rw [q]; rfl
    have H1 : Hid _ := later_both HB.out n
    clear HB q
    go_wp2_with fail
    refine Calls.mono H1.out ?_
    rintro e w1 ⟨v1, err, rfl, he0, he1, hbx, hc⟩
    have HC : Hid _ := hc
    have lx := hbx _ _ HL.out.1
    have bb0 := lx.at (j := 0) rfl
    have bb1 := lx.at (j := 1) rfl
    have dE : (err == err) = true := beq_self_eq_true _
    clear H1 hc hbx lx
    go_wp2_with fail
    refine Calls.mono HC.out ?_
    rintro e w2 ⟨u1, rfl, al, m1, kps, bt, bl⟩
    have HS : Hid _ := same_alike al
    have H2 : Hid (Bt B C t r m1 w2 ∧ Kps m m1 ∧ Below B W w2) := ⟨bt, kps, bl⟩
    clear HC al bt kps bl
    go_wp2_with fail
    refine Calls.mono HS.out ?_
    rintro e w3 ⟨rfl, q3, rfl⟩
    clear HS
    go_wp2_with fail
    go_ret
    exact ⟨rfl, C, m1, H2.out.1.kp (kp_drewN _ _), H2.out.2.1.stp, ((HL.out.2.1.mono HL.out.2.2.2.2.2.2.2).trans H2.out.2.2).trans ((kp_drewN _ _).mono H2.out.1.hB)⟩
  · have d3 : (kd % 9 == 3) = false := by rw [q]; rfl
    have d4 : (kd % 9 == 4) = false := by rw [q]; rfl
    have d5 : (kd % 9 == 5) = false := by rw [q]; rfl
    have d6 : (kd % 9 == 6) = false := by rw [q]; rfl
    have d7 : (kd % 9 == 7) = false := by rw [q]; rfl
    have d8 : (kd % 9 == 8) = true := by rw [q]; rfl
    have hx0 : 0 ≤ m.next := by have := HB.out.inw.inv.lt; omega
    have hx1 : m.next ≤ 8999 := HL.out.2.2.2.2.2.1
    have cN : W.cell? ⟨r, 3, none⟩ = some (.int .i64 m.next) := by obtain ⟨v, vs, h⟩ := HB.out.rw; exact h.box.at (j := 3) rfl
    clear q
    go_upto_region 22 with fail
    go_quiet (fail)
    have hkp := kp_drewN W nq
    generalize W.drewN nq = W1 at hkp ⊢
    generalize hx : max n 0 % (m.next + 1) = x
    have hxr : Rg x := by
      have h1 := Int.emod_nonneg (max n 0) (b := m.next + 1) (by omega)
      have h2 := Int.emod_lt_of_pos (max n 0) (b := m.next + 1) (by omega)
      exact rg_of ⟨by omega, by omega⟩
    have H1 : Hid _ := go_both (HB.out.kp hkp) hxr
    have HL1 : Hid (Lc 45 w.heap.size [.int .u8 kd, .int .i64 n, .slice da dn dc] W1 ∧ Kp w W1 ∧ B ≤ w.heap.size) := ⟨HL.out.1.kp hkp, kp_trans HL.out.2.1 hkp, HL.out.2.2.2.2.2.2.2⟩
    clear HB HL hx hxr hkp b0 b1 b2 cN
    go_wp2_with fail
    refine Calls.mono H1.out ?_
    rintro e w1 ⟨v1, err, rfl, he0, he1, hbx, hc⟩
    have HC : Hid _ := hc
    have lx := hbx _ _ HL1.out.1
    have bb0 := lx.at (j := 0) rfl
    have bb1 := lx.at (j := 1) rfl
    have dE : (err == err) = true := beq_self_eq_true _
    clear H1 hc hbx lx
    go_wp2_with fail
    refine Calls.mono HC.out ?_
    rintro e w2 ⟨u1, rfl, al, m1, kps, bt, bl⟩
    have HS : Hid _ := same_alike al
    have H2 : Hid (Bt B C t r m1 w2 ∧ Kps m m1 ∧ Below B W1 w2) := ⟨bt, kps, bl⟩
    clear HC al bt kps bl
    go_wp2_with fail
    refine Calls.mono HS.out ?_
    rintro e w3 ⟨rfl, q3, rfl⟩
    clear HS
    go_wp2_with fail
    go_ret
    exact ⟨rfl, C, m1, H2.out.1.kp (kp_drewN _ _), H2.out.2.1.stp, ((HL1.out.2.1.mono HL1.out.2.2).trans H2.out.2.2).trans ((kp_drewN _ _).mono H2.out.1.hB)⟩
  · have d3 : (kd % 9 == 3) = false := beq_eq_false_iff_ne.2 (by omega)
    have d4 : (kd % 9 == 4) = false := beq_eq_false_iff_ne.2 (by omega)
    have d5 : (kd % 9 == 5) = false := beq_eq_false_iff_ne.2 (by omega)
    have d6 : (kd % 9 == 6) = false := beq_eq_false_iff_ne.2 (by omega)
    have d7 : (kd % 9 == 7) = false := beq_eq_false_iff_ne.2 (by omega)
    have d8 : (kd % 9 == 8) = false := beq_eq_false_iff_ne.2 (by omega)
    have H1 : Hid _ := add_both (HB.out.kp (kp_drew W)) (by have := HL.out.2.2.2.2.1; omega) HL.out.2.2.2.2.2.1 HL.out.2.2.2.2.2.2.1 (HL.out.2.2.1.below ((kp_drew W).mono HB.out.hB)) HL.out.2.2.2.1
    have HK : Hid (Kp w W.drew ∧ B ≤ w.heap.size ∧ Lc 45 w.heap.size [.int .u8 kd, .int .i64 n, .slice da dn dc] W.drew ∧ Few 2000 ds ∧ Inv m) := ⟨kp_trans HL.out.2.1 (kp_drew W), HL.out.2.2.2.2.2.2.2, HL.out.1.kp (kp_drew W), HL.out.2.2.2.1, HB.out.inw.inv⟩
    have dN : (m.next == m.next) = true := beq_self_eq_true _
    clear q HB
    go_upto_region 5 with fail
    go_region_with (first | (go_at_call 12; refine Calls.mono H1.out ?_; rintro e w1 ⟨rfl, hbx, hc⟩; have bb2 := (hbx _ _ HK.out.2.2.1).at (j := 2) rfl; have HC : Hid _ := hc; clear hbx hc) | (go_at_call 46; refine Calls.mono (HC.out _ (Below.refl _ _)) ?_; rintro e w2 ⟨rfl, bt, bl⟩; have H2 : Hid _ := And.intro bt bl; clear bt bl HC) | (go_at_call 46; refine Calls.mono (HC.out _ (kp_drew _)) ?_; rintro e w2 ⟨rfl, bt, bl⟩; have H2 : Hid _ := And.intro bt bl; clear bt bl HC))
    all_goals
      go_wp2_with fail
      go_ret
      exact ⟨rfl, _, _, H2.out.1, ⟨Int.le_refl _, rfl, by rw [addT_len]; exact Nat.le_refl _, rt0_add HK.out.2.2.2.2⟩, (HK.out.1.mono HK.out.2.1).trans H2.out.2⟩
end
end Go.Proofs.Ytbkhhgaihhbhjaa
