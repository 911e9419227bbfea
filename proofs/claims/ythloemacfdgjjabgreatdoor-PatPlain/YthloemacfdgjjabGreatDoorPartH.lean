/- Texts that the proof of the law stands on: Prn3, Prn4, Kn0, Kn1, Eval0, Eval1, Eval4, Til, Eval5, Eval6, PPlain0, PPlain1, PPlain. -/
import Derived.Test.YthloemacfdgjjabGreatDoorPartG
import Derived.Test.YthloemacfdgjjabGreatDoorPartF
import Derived.Test.YthloemacfdgjjabGreatDoorPartA
import Derived.Test.YthloemacfdgjjabGreatDoorPartB
/- The printer's print. -/
namespace Go.Proofs.YthloemacfdgjjabGreatDoor
open Go.ChangeShapes Go.WideShapes Go.ChangeAt Go.RowKit
set_option linter.unusedVariables false
set_option linter.unusedSimpArgs false
def okP (L : List Nq) (a : Int) (k : Nat) : Bool := hasB L a && (!(inner (nodeAt L a).op) || !(nodeAt L a).kids.isEmpty) && decide (k + (nodeAt L a).kids.length ≤ 900000)
/-- What is written, of all that waits. -/
def prF (L : List Nq) : Nat → List Part → List UInt8 → Option (List UInt8)
  | 0, _, _ => none
  | n + 1, ps, l =>
    match ps.getLast? with
    | none => some l
    | some (t, a) =>
      if 800000 < l.length + t.length ∨ 800000 < ps.length then none
      else if a = -1 then prF L n ps.dropLast (l ++ t)
      else if okP L a ps.dropLast.length then prF L n (ps.dropLast ++ pushP (nodeAt L a)) (l ++ t ++ sayP (nodeAt L a))
      else none
theorem exists_least {p : Nat → Prop} (h : ∃ n, p n) : ∃ m, p m ∧ ∀ k, p k → m ≤ k := by
  obtain ⟨n, hn⟩ := h
  induction n using Nat.strongRecOn with
  | ind n ih =>
    by_cases q : ∃ k, k < n ∧ p k
    · obtain ⟨k, h1, h2⟩ := q; exact ih k h1 h2
    · exact ⟨n, hn, fun k hk => by
        rcases Nat.lt_or_ge k n with z | z
        · exact absurd ⟨k, z, hk⟩ q
        · exact z⟩
open Classical in
noncomputable def least (p : Nat → Prop) : Nat := if h : ∃ n, p n then Classical.choose (exists_least h) else 0
theorem least_le {p : Nat → Prop} {n : Nat} (h : p n) : least p ≤ n := by
  unfold least
  rw [dif_pos ⟨n, h⟩]
  exact (Classical.choose_spec (exists_least ⟨n, h⟩)).2 n h
theorem least_has {p : Nat → Prop} {n : Nat} (h : p n) : p (least p) := by
  unfold least
  rw [dif_pos ⟨n, h⟩]
  exact (Classical.choose_spec (exists_least ⟨n, h⟩)).1
theorem parts_pop {B : Nat} {v : Value} {ps : List Part} {x : Part} {w : World} (h : w.ownsRow B 75 2 v (ps ++ [x]).length (flatP (ps ++ [x]))) : ∃ g cap, v = .slice (some ⟨g, 0, none⟩) (ps.length + 1) cap ∧ ps.length + 1 ≤ cap ∧ cap ≤ maxLen ∧ B ≤ g ∧ w.cell? ⟨g, ps.length * 2, none⟩ = some (str x.1) ∧ w.cell? ⟨g, ps.length * 2 + 1, none⟩ = some (.int .i64 x.2) ∧ w.ownsRow B 75 2 (.slice (some ⟨g, 0, none⟩) ps.length cap) ps.length (flatP ps) := by
  have hl : (ps ++ [x]).length = ps.length + 1 := by simp
  have hfl := flatP_len ps
  rw [hl, flatP_snoc] at h
  rcases h.2 with ⟨_, q⟩ | ⟨g, c, cur, e, hb, hg, h1, h2, h3, h4⟩
  · omega
  · have hget : ∀ j, j < 2 → w.cell? ⟨g, ps.length * 2 + j, none⟩ = x.cells[j]? := fun j hj => by
      rw [cell_at hg, ← Array.getElem?_toList]
      have : (flatP ps ++ x.cells)[ps.length * 2 + j]? = x.cells[j]? := by
        rw [List.getElem?_append_right (by omega), hfl, Nat.add_sub_cancel_left]
      rw [← h4, List.getElem?_take, if_pos (by omega)] at this
      exact this
    refine ⟨g, c, e, h1, h2, hb, hget 0 (by omega), hget 1 (by omega), hfl, .inr ⟨g, c, cur, rfl, hb, hg, by omega, h2, h3, ?_⟩⟩
    have : (cur.toList.take ((ps.length + 1) * 2)).take (ps.length * 2) = (flatP ps ++ x.cells).take (ps.length * 2) := by rw [h4]
    rw [List.take_take, Nat.min_eq_left (by omega), List.take_append_of_le_length (by omega)] at this
    rw [this]
    exact List.take_of_length_le (by omega)
section
variable {w0 w w1 : World} {pb : Nat} {v kv : Value} {root G : Int} {cs : Nat} {l : List UInt8} {ps : List Part} {L : List Nq}
def Sp (pb g k cap : Nat) (t : List UInt8) (a : Int) (w : World) : Prop := w.cell? ⟨pb, 6, none⟩ = some (.slice (some ⟨g, 0, none⟩) (k + 1) cap) ∧ w.cell? ⟨g, k * 2, none⟩ = some (str t) ∧ w.cell? ⟨g, k * 2 + 1, none⟩ = some (.int .i64 a)
def Pc (pb : Nat) (root G : Int) (cs : Nat) (w : World) : Prop := w.cell? ⟨pb, 1, none⟩ = some (.int .i64 root) ∧ w.cell? ⟨pb, 2, none⟩ = some (.int .i64 G) ∧ w.cell? ⟨pb, 3, none⟩ = some (.int .u8 cs)
theorem Pws.pc (h : Pws w0 pb v root G cs l ps w) : Pc pb root G cs w := by
  obtain ⟨p, bv, wv, h⟩ := h
  obtain ⟨_, c1, c2, c3, _⟩ := h.pr.cells
  exact ⟨c1, c2, c3⟩
def headT (G : Int) (cs : Nat) : List UInt8 := Lib.itoa G ++ caseL cs ++ [58]
set_option maxHeartbeats 4000000 in
set_option maxRecDepth 100000 in
theorem print_any (h : Pws w0 pb v root G cs [] [] w) (hv : Pt w0 v L) (g : Gl w0) (hG : Sm G) (hL : ∀ d ∈ L, Nok d) {X : List UInt8} {n : Nat} (hX : prF L n [(headT G cs, root)] [] = some X) (hne : X ≠ []) :
    Calls Tryz.prog 15 #[.pointer (some ⟨pb, 0, none⟩)] w fun e w' => e = .returned (str X) ∧ Kp w0 w' := by
  have hkp : Kp w0 w := by obtain ⟨_, _, _, z⟩ := h; exact z.kp
  have HQ : Hid (Pt w0 v L ∧ Gl w0 ∧ Sm G ∧ (∀ d ∈ L, Nok d) ∧ prF L n [(headT G cs, root)] [] = some X ∧ X ≠ [] ∧ Kp w0 w) := ⟨hv, g, hG, hL, hX, hne, hkp⟩
  have HP : Hid (Pws w0 pb v root G cs [] [] w) := h
  obtain ⟨a1, ha1⟩ : ∃ a, Lib.itoa G ++ caseL cs = a := ⟨_, rfl⟩
  obtain ⟨a2, ha2⟩ : ∃ a, a1 ++ [58] = a := ⟨_, rfl⟩
  have e1 : a1.length ≤ 22 := by
    have := itoa_len hG
    rw [← ha1, List.length_append]
    have : (caseL cs).length = 1 := by unfold caseL; repeat' split
                                       all_goals rfl
    omega
  have hA1 := cat_run ha1 (by omega)
  have hA2 := cat_run ha2 (by rw [← ha2, List.length_append]; simp; omega)
  have HH : Hid (headT G cs = a2) := by unfold headT; rw [ha1, ha2]; rfl
  have HD : Hid (Pws w0 pb v root G cs [] [] w.drew ∧ Gl w.drew ∧ Kp w0 w.drew) := ⟨h.kp (kp_drew _), g.kp (kp_trans hkp (kp_drew _)), kp_trans hkp (kp_drew _)⟩
  have rl1 : ∀ w', Pc pb root G cs w' → w'.cell? ⟨pb, 1, none⟩ = some (.int .i64 root) := fun _ h => h.1
  have rl2 : ∀ w', Pc pb root G cs w' → w'.cell? ⟨pb, 2, none⟩ = some (.int .i64 G) := fun _ h => h.2.1
  have rl3 : ∀ w', Pc pb root G cs w' → w'.cell? ⟨pb, 3, none⟩ = some (.int .u8 cs) := fun _ h => h.2.2
  clear h hv g hG hL hX hne hkp ha1 ha2 e1
  go_enter Tryz.func15, Tryz.ntmps15
  go_wp2_with fail
  refine wp_region_noPanic ?_
  refine wp_region_held_drew (S := Pc pb root G cs) (by kernel_rfl) (HD.out.1.pc) (fun hHeld => ?_)
  refine takeAt 0 (some 4) ?_ rfl rfl (by kernel_rfl) (by kernel_rfl) (by kernel_rfl) (fun _ _ _ h => h) (Or.inl ⟨by rfl, ?_⟩) hHeld ?_
  rotate_left
  · intro w hSw
    go_simp <;> with_reducible rfl
  try simp only [Act.put, List.setIfInBounds_toArray, List.set_cons_zero, List.set_cons_succ]
  refine takeAt 1 (some 5) ?_ rfl rfl (by kernel_rfl) (by kernel_rfl) (by kernel_rfl) (fun _ _ _ h => h) (Or.inl ⟨by rfl, ?_⟩) hHeld ?_
  rotate_left
  · intro w hSw
    go_simp <;> with_reducible rfl
  try simp only [Act.put, List.setIfInBounds_toArray, List.set_cons_zero, List.set_cons_succ]
  refine takeAt 2 (some 6) ?_ rfl rfl (by kernel_rfl) (by kernel_rfl) (by kernel_rfl) (fun _ _ _ h => h) (Or.inl ⟨by rfl, ?_⟩) hHeld ?_
  rotate_left
  · intro w hSw
    go_simp <;> with_reducible rfl
  try simp only [Act.put, List.setIfInBounds_toArray, List.set_cons_zero, List.set_cons_succ]
  refine takeAt 3 (some 7) ?_ rfl rfl (by kernel_rfl) (by kernel_rfl) (by kernel_rfl) (fun _ _ _ h => h) (Or.inl ⟨by rfl, ?_⟩) hHeld ?_
  rotate_left
  · intro w hSw
    go_simp <;> with_reducible rfl
  try simp only [Act.put, List.setIfInBounds_toArray, List.set_cons_zero, List.set_cons_succ]
  refine takeAt 4 (some 8) ?_ rfl rfl (by kernel_rfl) (by kernel_rfl) (by kernel_rfl) (fun _ _ _ h => h) (Or.inl ⟨by rfl, ?_⟩) hHeld ?_
  rotate_left
  · intro w hSw
    go_simp <;> with_reducible rfl
  try simp only [Act.put, List.setIfInBounds_toArray, List.set_cons_zero, List.set_cons_succ]
  refine takeAt 5 (some 9) ?_ rfl rfl (by kernel_rfl) (by kernel_rfl) (by kernel_rfl) (fun _ _ _ h => h) (Or.inl ⟨by rfl, ?_⟩) hHeld ?_
  rotate_left
  · intro w hSw
    go_simp <;> with_reducible rfl
  try simp only [Act.put, List.setIfInBounds_toArray, List.set_cons_zero, List.set_cons_succ]
  refine takeAt 7 (some 11) ?_ rfl rfl (by kernel_rfl) (by kernel_rfl) (by kernel_rfl) (fun _ _ _ h => h) (Or.inl ⟨by rfl, ?_⟩) hHeld ?_
  rotate_left
  · intro w hSw
    go_simp <;> with_reducible rfl
  try simp only [Act.put, List.setIfInBounds_toArray, List.set_cons_zero, List.set_cons_succ]
  refine takeAt 8 (some 12) ?_ rfl rfl (by kernel_rfl) (by kernel_rfl) (by kernel_rfl) (fun _ _ _ h => h) (Or.inl ⟨by rfl, ?_⟩) hHeld ?_
  rotate_left
  · intro w hSw
    go_simp <;> with_reducible rfl
  try simp only [Act.put, List.setIfInBounds_toArray, List.set_cons_zero, List.set_cons_succ]
  refine takeAt 9 (some 13) ?_ rfl rfl (by kernel_rfl) (by kernel_rfl) (by kernel_rfl) (fun _ _ _ h => h) (Or.inl ⟨by rfl, ?_⟩) hHeld ?_
  rotate_left
  · intro w hSw
    go_simp <;> with_reducible rfl
  try simp only [Act.put, List.setIfInBounds_toArray, List.set_cons_zero, List.set_cons_succ]
  refine takeAt 10 (some 14) ?_ rfl rfl (by kernel_rfl) (by kernel_rfl) (by kernel_rfl) (fun _ _ _ h => h) (Or.inl ⟨by rfl, ?_⟩) hHeld ?_
  rotate_left
  · intro w hSw
    go_simp <;> with_reducible rfl
  try simp only [Act.put, List.setIfInBounds_toArray, List.set_cons_zero, List.set_cons_succ]
  refine takeAt 11 (some 15) ?_ rfl rfl (by kernel_rfl) (by kernel_rfl) (by kernel_rfl) (fun _ _ _ h => h) (Or.inl ⟨by rfl, ?_⟩) hHeld ?_
  rotate_left
  · intro w hSw
    go_simp <;> with_reducible rfl
  try simp only [Act.put, List.setIfInBounds_toArray, List.set_cons_zero, List.set_cons_succ]
  refine takeAt 15 (some 19) ?_ rfl rfl (by kernel_rfl) (by kernel_rfl) (by kernel_rfl) (fun _ _ _ h => h) (Or.inl ⟨by rfl, ?_⟩) hHeld ?_
  rotate_left
  · intro w hSw
    go_simp <;> with_reducible rfl
  try simp only [Act.put, List.setIfInBounds_toArray, List.set_cons_zero, List.set_cons_succ]
  refine takeAt 16 (some 20) ?_ rfl rfl (by kernel_rfl) (by kernel_rfl) (by kernel_rfl) (fun _ _ _ h => h) (Or.inl ⟨by rfl, ?_⟩) hHeld ?_
  rotate_left
  · intro w hSw
    go_simp <;> with_reducible rfl
  try simp only [Act.put, List.setIfInBounds_toArray, List.set_cons_zero, List.set_cons_succ]
  refine takeAt 17 (some 21) ?_ rfl rfl (by kernel_rfl) (by kernel_rfl) (by kernel_rfl) (fun _ _ _ h => h) (Or.inl ⟨by rfl, ?_⟩) hHeld ?_
  rotate_left
  · intro w hSw
    go_simp <;> with_reducible rfl
  try simp only [Act.put, List.setIfInBounds_toArray, List.set_cons_zero, List.set_cons_succ]
  refine takeAt 18 (some 22) ?_ rfl rfl (by kernel_rfl) (by kernel_rfl) (by kernel_rfl) (fun _ _ _ h => h) (Or.inl ⟨by rfl, ?_⟩) hHeld ?_
  rotate_left
  · intro w hSw
    go_simp <;> with_reducible rfl
  try simp only [Act.put, List.setIfInBounds_toArray, List.set_cons_zero, List.set_cons_succ]
  refine takeAt 19 (some 23) ?_ rfl rfl (by kernel_rfl) (by kernel_rfl) (by kernel_rfl) (fun _ _ _ h => h) (Or.inl ⟨by rfl, ?_⟩) hHeld ?_
  rotate_left
  · intro w hSw
    go_simp <;> with_reducible rfl
  try simp only [Act.put, List.setIfInBounds_toArray, List.set_cons_zero, List.set_cons_succ]
  refine callAt 6 10 21 (vals := #[.int .i64 G]) (by kernel_rfl) rfl rfl rfl rfl (by simp [Act.eval]) Tryz.func21 (by kernel_rfl) (by kernel_rfl) ?_
  refine Calls.mono (itoa_any G HQ.out.2.2.1.1 HQ.out.2.2.1.2 HD.out.2.1) ?_
  rintro e w2 ⟨rfl, q⟩
  have H2 : Hid (Pws w0 pb v root G cs [] [] w2) := HD.out.1.kp q
  clear q
  refine ⟨_, rfl, H2.out.pc, fun hHeld => ?_⟩
  try simp only [Act.put, List.setIfInBounds_toArray, List.set_cons_zero, List.set_cons_succ]
  refine callAt 12 16 22 (vals := #[.int .u8 cs]) (by kernel_rfl) rfl rfl rfl rfl (by simp [Act.eval]) Tryz.func22 (by kernel_rfl) (by kernel_rfl) ?_
  refine Calls.mono (caseLetter_any cs) ?_
  rintro e w3 ⟨rfl, rfl⟩
  refine ⟨_, rfl, H2.out.pc, fun hHeld => ?_⟩
  try simp only [Act.put, List.setIfInBounds_toArray, List.set_cons_zero, List.set_cons_succ]
  refine takeAt 13 (some 17) ?_ rfl rfl (by kernel_rfl) (by kernel_rfl) (by kernel_rfl) (fun _ _ _ h => h) (Or.inl ⟨by rfl, ?_⟩) hHeld ?_
  rotate_left
  · intro w hSw
    go_simp <;> with_reducible rfl
  try simp only [Act.put, List.setIfInBounds_toArray, List.set_cons_zero, List.set_cons_succ]
  refine takeAt 14 (some 18) ?_ rfl rfl (by kernel_rfl) (by kernel_rfl) (by kernel_rfl) (fun _ _ _ h => h) (Or.inl ⟨by rfl, ?_⟩) hHeld ?_
  rotate_left
  · intro w hSw
    go_simp <;> with_reducible rfl
  try simp only [Act.put, List.setIfInBounds_toArray, List.set_cons_zero, List.set_cons_succ]
  refine callAt 20 24 20 (vals := #[.pointer (some ⟨pb, 0, none⟩), str a2, .int .i64 root]) (by kernel_rfl) rfl rfl rfl rfl (by simp [Act.eval]) Tryz.func20 (by kernel_rfl) (by kernel_rfl) ?_
  refine Calls.mono (wait_any H2.out a2 root (by simp)) ?_
  rintro e w4 ⟨rfl, q, _⟩
  have H4 : Hid (Pws w0 pb v root G cs [] [(a2, root)] w4) := q
  clear q
  refine ⟨_, rfl, H4.out.pc, fun hHeld => ?_⟩
  try simp only [Act.put, List.setIfInBounds_toArray, List.set_cons_zero, List.set_cons_succ]
  refine wpAnyH_done (by kernel_rfl) ?_ _
  refine NoPanic.normal ?_
  have hX2 := HQ.out.2.2.2.2.1
  rw [HH.out] at hX2
  have HX : Hid (prF L n [(a2, root)] [] = some X) := hX2
  clear hX2 hHeld
  go_wp2_with fail
  go_loopw [3] (fun v3 wr => ∃ (f : Nat) (l : List UInt8) (ps : List Part), prF L f ps l = some X ∧ Pws w0 pb v root G cs l ps wr) (fun _ wr => least fun f => ∃ (l : List UInt8) (ps : List Part), prF L f ps l = some X ∧ Pws w0 pb v root G cs l ps wr)
  case atStart => exact ⟨n, [], [(a2, root)], HX.out, H4.out⟩
  case round =>
    obtain ⟨f0, l0, ps0, hF0, hP0⟩ := hrel
    obtain ⟨m, hm⟩ : ∃ m, (least fun f => ∃ (l : List UInt8) (ps : List Part), prF L f ps l = some X ∧ Pws w0 pb v root G cs l ps wr) = m := ⟨_, rfl⟩
    obtain ⟨l, ps, hF, hP⟩ := least_has (p := fun f => ∃ (l : List UInt8) (ps : List Part), prF L f ps l = some X ∧ Pws w0 pb v root G cs l ps wr) ⟨l0, ps0, hF0, hP0⟩
    rw [hm] at hF
    have HM : Hid ((least fun f => ∃ (l : List UInt8) (ps : List Part), prF L f ps l = some X ∧ Pws w0 pb v root G cs l ps wr) = m) := hm
    clear hF0 hP0 hm
    obtain ⟨p, bv, wv, hW⟩ := hP
    cases m with
    | zero => simp [prF] at hF
    | succ m =>
    obtain ⟨_, _, _, _, _, _, c6⟩ := hW.pr.cells
    rcases List.eq_nil_or_concat ps with rfl | ⟨qs, ⟨t, a⟩, rfl⟩
    · have hXl : X = l := by simp [prF] at hF; exact hF.symm
      subst hXl
      obtain ⟨sa, sc, rfl, _, _⟩ := owns_form hW.wt
      have HW : Hid (Pws w0 pb v root G cs X [] wr) := ⟨_, _, _, hW⟩
      clear hW hF HX
      simp only [List.length_nil] at c6 ⊢
      go_wp2_with fail
      refine Calls.mono (bstring_any HW.out HQ.out.2.2.2.2.2.1) ?_
      rintro e w5 ⟨rfl, q⟩
      have HZ : Hid _ := q
      clear q
      go_wp2_with fail
      go_ret
      exact ⟨rfl, HZ.out⟩
    · rw [List.concat_eq_append] at hF hW
      obtain ⟨k, hk⟩ : ∃ k, qs.length = k := ⟨_, rfl⟩
      obtain ⟨g, cap, rfl, k1, k2, k3, kc0, kc1, hpop⟩ := parts_pop hW.wt
      rw [hk] at k1 kc0 kc1 hpop c6
      have hstep : ¬ (800000 < l.length + t.length ∨ 800000 < k + 1) ∧ (if a = -1 then prF L m qs (l ++ t) else if okP L a k then prF L m (qs ++ pushP (nodeAt L a)) (l ++ t ++ sayP (nodeAt L a)) else none) = some X := by
        unfold prF at hF
        simp only [List.getLast?_concat, List.dropLast_concat, List.length_append, List.length_cons, List.length_nil, Nat.zero_add, hk] at hF
        split at hF
        · cases hF
        · rename_i hb
          exact ⟨hb, hF⟩
      have hgne : g ≠ pb := fun z => hW.wne (by simp only [Value.ownBlock]; rw [z])
      have hglt : g < wr.heap.size := (hpop.lt g rfl).2
      have hY : ∀ ob, Pws w0 pb v root G cs l qs ((wr.alloc ob).setCell ⟨pb, 6, none⟩ (.slice (some ⟨g, 0, none⟩) k cap)) := fun ob => by
        have hW := hW.kp' (kp_alloc wr ob)
        have hpop := row_kp hpop (kp_alloc wr ob)
        have hsz := alloc_size wr ob
        have f := fr_set pb 6 (.slice (some ⟨g, 0, none⟩) k cap) (wr.alloc ob)
        refine ⟨p, bv, .slice (some ⟨g, 0, none⟩) k cap, kp_new hW.kp f hW.far, hW.far, hW.pr.set6 _, hW.ptr, row_heap hW.buf fun j hj => ?_, ?_⟩
        · exact f.block j (hW.buf.lt j hj).2 fun z => hW.bne (by unfold On at z; rw [← z]; exact hj)
        · rw [hk]
          refine row_heap hpop fun j hj => ?_
          simp only [Value.ownBlock, Option.some.injEq] at hj
          exact f.block j (by omega) fun z => hgne (by unfold On at z; omega)
      have hplt := hW.pr.lt
      have HW5 : Hid (Pws w0 pb v root G cs l qs ((wr.alloc (.cells #[str t, .int .i64 a] 75)).setCell ⟨pb, 6, none⟩ (.slice (some ⟨g, 0, none⟩) k cap)).drew.drew ∧ ((wr.alloc (.cells #[str t, .int .i64 a] 75)).setCell ⟨pb, 6, none⟩ (.slice (some ⟨g, 0, none⟩) k cap)).drew.drew.heap[wr.heap.size]? = some (.cells #[str t, .int .i64 a] 75 (0, 0))) := by
        refine ⟨(hY _).kp (kp_trans (kp_drew _) (kp_drew _)), ?_⟩
        show ((wr.alloc (.cells #[str t, .int .i64 a] 75)).setCell ⟨pb, 6, none⟩ (.slice (some ⟨g, 0, none⟩) k cap)).heap[wr.heap.size]? = _
        rw [heap_setCell_other (by omega)]
        exact alloc_new wr _
      have HST : Hid (¬ (800000 < l.length + t.length ∨ 800000 < k + 1) ∧ (if a = -1 then prF L m qs (l ++ t) else if okP L a k then prF L m (qs ++ pushP (nodeAt L a)) (l ++ t ++ sayP (nodeAt L a)) else none) = some X ∧ qs.length = k) := ⟨hstep.1, hstep.2, hk⟩
      have c6a : ∀ ob, (wr.alloc ob).cell? ⟨pb, 6, none⟩ = some (.slice (some ⟨g, 0, none⟩) (k + 1) cap) := fun ob => kp_cell (kp_alloc _ _) c6
      have f6a : ∀ ob, (wr.alloc ob).frozen? ⟨pb, 6, none⟩ = false := fun ob => (hW.kp' (kp_alloc wr ob)).pr.fz 6
      have HS0 : Hid (∀ x, Kp wr x → Sp pb g k cap t a x) := fun x q => ⟨kp_cell q c6, kp_cell q kc0, kp_cell q kc1⟩
      have rs6 : ∀ w', Sp pb g k cap t a w' → w'.cell? ⟨pb, 6, none⟩ = some (.slice (some ⟨g, 0, none⟩) (k + 1) cap) := fun _ h => h.1
      have rs0 : ∀ w', Sp pb g k cap t a w' → w'.cell? ⟨g, k * 2, none⟩ = some (str t) := fun _ h => h.2.1
      have rs1 : ∀ w', Sp pb g k cap t a w' → w'.cell? ⟨g, k * 2 + 1, none⟩ = some (.int .i64 a) := fun _ h => h.2.2
      have hk8 : k ≤ 800000 := by have := hstep.1; omega
      have hwk : IntKind.i64.wrap (k : Int) = (k : Int) := by rw [IntKind.wrap_i64]; omega
      have hkk : ((k : Int) < (k : Int) + 1) := by omega
      unfold maxLen at k2
      clear hF hW hY hstep hgne hglt hplt hpop hk kc0 kc1 rl1 rl2 rl3
      go_wp2_with fail
      refine wp_region_noPanic ?_
      refine wp_region_held_drew (S := Sp pb g k cap t a) (by kernel_rfl) (HS0.out _ (kp_drew _)) (fun hHeld => ?_)
      refine takeAt 0 (some 31) ?_ rfl rfl (by kernel_rfl) (by kernel_rfl) (by kernel_rfl) (fun _ _ _ h => h) (Or.inl ⟨by rfl, ?_⟩) hHeld ?_
      rotate_left
      · intro w hSw
        go_simp <;> with_reducible rfl
      try simp only [Act.put, List.setIfInBounds_toArray, List.set_cons_zero, List.set_cons_succ]
      refine takeAt 1 (some 32) ?_ rfl rfl (by kernel_rfl) (by kernel_rfl) (by kernel_rfl) (fun _ _ _ h => h) (Or.inl ⟨by rfl, ?_⟩) hHeld ?_
      rotate_left
      · intro w hSw
        go_simp <;> with_reducible rfl
      try simp only [Act.put, List.setIfInBounds_toArray, List.set_cons_zero, List.set_cons_succ]
      refine takeAt 2 (some 33) ?_ rfl rfl (by kernel_rfl) (by kernel_rfl) (by kernel_rfl) (fun _ _ _ h => h) (Or.inl ⟨by rfl, ?_⟩) hHeld ?_
      rotate_left
      · intro w hSw
        go_simp <;> with_reducible rfl
      try simp only [Act.put, List.setIfInBounds_toArray, List.set_cons_zero, List.set_cons_succ]
      refine takeAt 3 (some 34) ?_ rfl rfl (by kernel_rfl) (by kernel_rfl) (by kernel_rfl) (fun _ _ _ h => h) (Or.inl ⟨by rfl, ?_⟩) hHeld ?_
      rotate_left
      · intro w hSw
        go_simp <;> with_reducible rfl
      try simp only [Act.put, List.setIfInBounds_toArray, List.set_cons_zero, List.set_cons_succ]
      refine takeAt 4 (some 35) ?_ rfl rfl (by kernel_rfl) (by kernel_rfl) (by kernel_rfl) (fun _ _ _ h => h) (Or.inl ⟨by rfl, ?_⟩) hHeld ?_
      rotate_left
      · intro w hSw
        go_simp <;> with_reducible rfl
      try simp only [Act.put, List.setIfInBounds_toArray, List.set_cons_zero, List.set_cons_succ]
      refine takeAt 5 (some 36) ?_ rfl rfl (by kernel_rfl) (by kernel_rfl) (by kernel_rfl) (fun _ _ _ h => h) (Or.inl ⟨by rfl, ?_⟩) hHeld ?_
      rotate_left
      · intro w hSw
        go_simp <;> with_reducible rfl
      try simp only [Act.put, List.setIfInBounds_toArray, List.set_cons_zero, List.set_cons_succ]
      refine takeAt 6 (some 37) ?_ rfl rfl (by kernel_rfl) (by kernel_rfl) (by kernel_rfl) (fun _ _ _ h => h) (Or.inl ⟨by rfl, ?_⟩) hHeld ?_
      rotate_left
      · intro w hSw
        go_simp <;> with_reducible rfl
      try simp only [Act.put, List.setIfInBounds_toArray, List.set_cons_zero, List.set_cons_succ]
      refine takeAt 7 (some 38) ?_ rfl rfl (by kernel_rfl) (by kernel_rfl) (by kernel_rfl) (fun _ _ _ h => h) (Or.inl ⟨by rfl, ?_⟩) hHeld ?_
      rotate_left
      · intro w hSw
        go_simp <;> with_reducible rfl
      try simp only [Act.put, List.setIfInBounds_toArray, List.set_cons_zero, List.set_cons_succ]
      refine takeAt 8 (some 39) ?_ rfl rfl (by kernel_rfl) (by kernel_rfl) (by kernel_rfl) (fun _ _ _ h => h) (Or.inl ⟨by rfl, ?_⟩) hHeld ?_
      rotate_left
      · intro w hSw
        go_simp <;> with_reducible rfl
      try simp only [Act.put, List.setIfInBounds_toArray, List.set_cons_zero, List.set_cons_succ]
      refine takeAt 9 (some 40) ?_ rfl rfl (by kernel_rfl) (by kernel_rfl) (by kernel_rfl) (fun _ _ _ h => h) (Or.inl ⟨by rfl, ?_⟩) hHeld ?_
      rotate_left
      · intro w hSw
        go_simp <;> with_reducible rfl
      try simp only [Act.put, List.setIfInBounds_toArray, List.set_cons_zero, List.set_cons_succ]
      refine takeAt 10 (some 41) ?_ rfl rfl (by kernel_rfl) (by kernel_rfl) (by kernel_rfl) (fun _ _ _ h => h) (Or.inl ⟨by rfl, ?_⟩) hHeld ?_
      rotate_left
      · intro w hSw
        go_simp <;> with_reducible rfl
      try simp only [Act.put, List.setIfInBounds_toArray, List.set_cons_zero, List.set_cons_succ]
      refine takeAt 11 (some 42) ?_ rfl rfl (by kernel_rfl) (by kernel_rfl) (by kernel_rfl) (fun _ _ _ h => h) (Or.inl ⟨by rfl, ?_⟩) hHeld ?_
      rotate_left
      · intro w hSw
        go_simp <;> with_reducible rfl
      try simp only [Act.put, List.setIfInBounds_toArray, List.set_cons_zero, List.set_cons_succ]
      refine wpAnyH_ready (rs := [12]) (by kernel_rfl) (by simp) ?_
      refine AllReadyH.cons rfl (fun K hK => ?_) AllReadyH.nil
      go_simp
      refine hK.out _ _ (HS0.out _ (kp_trans (kp_alloc _ _) (kp_drew _))) (fun hHeld => ?_)
      clear hK K
      try simp only [Act.put, List.setIfInBounds_toArray, List.set_cons_zero, List.set_cons_succ]
      refine wpAnyH_ready (rs := [13]) (by kernel_rfl) (by simp) ?_
      refine AllReadyH.cons rfl (fun K hK => ?_) AllReadyH.nil
      go_simp
      refine hK.out _ _ (HS0.out _ (kp_trans (kp_alloc _ _) (kp_drew _))) (fun hHeld => ?_)
      clear hK K
      try simp only [Act.put, List.setIfInBounds_toArray, List.set_cons_zero, List.set_cons_succ]
      refine wpAnyH_done (by kernel_rfl) ?_ _
      refine NoPanic.normal ?_
      go_wp2_with fail
      go_region
      go_wp2_with fail
      generalize ((wr.alloc (.cells #[str t, .int .i64 a] 75)).setCell ⟨pb, 6, none⟩ (.slice (some ⟨g, 0, none⟩) k cap)).drew.drew = W at HW5 ⊢
      have cb0 : W.cell? ⟨wr.heap.size, 0, none⟩ = some (str t) := by rw [cell_at HW5.out.2]; rfl
      clear c6a f6a c6 rs6 rs0 rs1 hHeld HS0
      have HW6 : Hid (Calls Tryz.prog 23 #[.pointer (some ⟨pb, 4, none⟩), str t] W.drew fun e w' => e = .returned (.tuple #[.int .i64 t.length, .nilIface]) ∧ Pws w0 pb v root G cs (l ++ t) qs w' ∧ w'.heap[wr.heap.size]? = some (.cells #[str t, .int .i64 a] 75 (0, 0))) :=
        (write_any (HW5.out.1.kp (kp_drew W)) t (by have := HST.out.1; omega)).mono fun e w' q => ⟨q.1, q.2.1, q.2.2 _ (by decide) (by decide) _ _ HW5.out.2⟩
      go_region_with (go_at_call 23; refine Calls.mono HW6.out ?_; rintro e w5 ⟨rfl, q5, b5⟩)
      have HP5 : Hid (Pws w0 pb v root G cs (l ++ t) qs w5 ∧ w5.heap[wr.heap.size]? = some (.cells #[str t, .int .i64 a] 75 (0, 0))) := ⟨q5, b5⟩
      have cb1 : w5.cell? ⟨wr.heap.size, 1, none⟩ = some (.int .i64 a) := by rw [cell_at b5]; rfl
      clear q5 b5 cb0 HW6
      by_cases ha : a = -1
      · subst ha
        go_wp2_with fail
        have hs : prF L m qs (l ++ t) = some X := by have := HST.out.2.1; simpa using this
        refine ⟨⟨m, l ++ t, qs, hs, HP5.out.1⟩, ?_⟩
        rw [HM.out]
        exact Nat.lt_succ_of_le (least_le ⟨l ++ t, qs, hs, HP5.out.1⟩)
      · have hda : (a == -1) = false := by simpa using ha
        have hst := HST.out.2.1
        rw [if_neg ha] at hst
        have hok : okP L a k = true := by
          cases hq : okP L a k with
          | true => rfl
          | false => rw [hq] at hst; cases hst
        rw [hok, if_pos rfl] at hst
        have HSt : Hid (prF L m (qs ++ pushP (nodeAt L a)) (l ++ t ++ sayP (nodeAt L a)) = some X) := hst
        clear hst
        unfold okP at hok
        simp only [Bool.and_eq_true, Bool.or_eq_true, Bool.not_eq_true', decide_eq_true_eq] at hok
        obtain ⟨⟨hhas, hinn⟩, hlen⟩ := hok
        obtain ⟨va, vc, rfl, _, vcc, _⟩ := id HQ.out.1
        obtain ⟨na, nb, no, kv, rfl, hna, rfl, hcs, hks⟩ := HQ.out.1.node hhas
        obtain ⟨d, hd⟩ : ∃ d, nodeAt L na = d := ⟨_, rfl⟩
        have hdm : d ∈ L := by
          rw [← hd]; unfold nodeAt
          rw [Int.toNat_natCast, List.getElem?_eq_getElem hna]
          exact List.getElem_mem hna
        rw [hd] at hcs hks hinn hlen
        have HSt2 : Hid (prF L m (qs ++ pushP d) (l ++ t ++ sayP d) = some X) := by have := HSt.out; rw [hd] at this; exact this
        have k5 : Kp w0 w5 := by obtain ⟨_, _, _, z⟩ := HP5.out.1; exact z.kp
        have HN7 : Hid (Calls Tryz.prog 24 #[.pointer (some ⟨pb, 0, none⟩), d.val kv] w5.drew fun e w' => e = .returned (.tuple #[]) ∧ Pws w0 pb (.slice (some ⟨nb, no, none⟩) L.length vc) root G cs (l ++ t ++ sayP d) (qs ++ pushP d) w') :=
          node_any (HP5.out.1.kp (kp_drew w5)) HQ.out.2.1 d (HQ.out.2.2.2.1 d hdm) hks (fun z => by
            rcases hinn with y | y
            · rw [z] at y; cases y
            · intro e; rw [e] at y; cases y) (by rw [HST.out.2.2]; omega) (by rw [List.length_append]; have := HST.out.1; omega)
        unfold Nq.val at HN7
        have n0 : w5.cell? ⟨nb, no + na * 11, none⟩ = some (.int .u8 d.op) := kp_cell k5 (hcs 0 _ rfl)
        have n1 := kp_cell k5 (hcs 1 _ rfl)
        have n2 := kp_cell k5 (hcs 2 _ rfl)
        have n3 := kp_cell k5 (hcs 3 _ rfl)
        have n4 := kp_cell k5 (hcs 4 _ rfl)
        have n5 := kp_cell k5 (hcs 5 _ rfl)
        have n6 := kp_cell k5 (hcs 6 _ rfl)
        have n7 := kp_cell k5 (hcs 7 _ rfl)
        have n8 := kp_cell k5 (hcs 8 _ rfl)
        have n9 := kp_cell k5 (hcs 9 _ rfl)
        have n10 := kp_cell k5 (hcs 10 _ rfl)
        obtain ⟨ka, kc, rfl, _, _, _⟩ := id hks
        have p0 : w5.cell? ⟨pb, 0, none⟩ = some (.slice (some ⟨nb, no, none⟩) L.length vc) := by
          obtain ⟨_, _, _, z⟩ := HP5.out.1
          exact z.pr.cells.1
        unfold maxLen at vcc
        clear hcs hks hinn hlen hhas hdm k5 hd
        go_wp2_with fail
        go_region_with (go_at_call 24; refine Calls.mono HN7.out ?_; rintro e w7 ⟨rfl, q7⟩)
        all_goals
          have HP7 : Hid _ := q7
          clear q7
          go_wp2_with fail
          refine ⟨⟨m, _, _, HSt2.out, HP7.out⟩, ?_⟩
          rw [HM.out]
          exact Nat.lt_succ_of_le (least_le ⟨_, _, HSt2.out, HP7.out⟩)
end
end Go.Proofs.YthloemacfdgjjabGreatDoor
/- Print. -/
namespace Go.Proofs.YthloemacfdgjjabGreatDoor
open Go.ChangeShapes Go.WideShapes Go.ChangeAt Go.RowKit
set_option linter.unusedVariables false
set_option linter.unusedSimpArgs false
section
variable {w : World} {v : Value} {root G : Int} {cs : Nat} {L : List Nq}
set_option maxHeartbeats 4000000 in
set_option maxRecDepth 100000 in
theorem pprint_any {K : Nat} (hv : Pt w v L) (hK : ∀ d ∈ L, d.kids.length ≤ K) (hM : K * L.length ≤ 10000000) (hLl : L.length ≤ 10000000) (g : Gl w) (hG : Sm G) (hL : ∀ d ∈ L, Nok d) (hs : soundF L root G = true) {X : List UInt8} {n : Nat} (hX : prF L n [(headT G cs, root)] [] = some X) (hne : X ≠ []) :
    Calls Tryz.prog 9 #[.agg #[v, .int .i64 root, .int .i64 G, .int .u8 cs]] w fun e w' => e = .returned (str X) ∧ Kp w w' := by
  have HS : Hid (∀ x, Kp w x → Calls Tryz.prog 8 #[.agg #[v, .int .i64 root, .int .i64 G, .int .u8 cs]] x fun e w' => e = .returned (.bool true) ∧ Kp x w') := fun x k => by
    have := sound_any (hv.kp k) root G cs hK hM hLl
    rw [hs] at this
    exact this
  have HP : Hid (∀ x pb, Kp w x → w.heap.size ≤ pb → Pr pb v root G cs (.pointer none) (.slice none 0 0) (.slice none 0 0) x → Calls Tryz.prog 15 #[.pointer (some ⟨pb, 0, none⟩)] x fun e w' => e = .returned (str X) ∧ Kp w w') := fun x pb k hb hp =>
    print_any ⟨_, _, _, k, hb, hp, .inl rfl, World.ownsRow_nil _ _ _ _, World.ownsRow_nil _ _ _ _⟩ hv g hG hL hX hne
  obtain ⟨va, vc, rfl, _, _, _⟩ := id hv
  clear hv hK hM hLl g hG hL hs hX hne
  go_enter Tryz.func9, Tryz.ntmps9
  go_wp2_with fail
  refine Calls.mono (HS.out _ (kp_alloc _ _)) ?_
  rintro e w1 ⟨rfl, q⟩
  have k1 : Kp w w1 := kp_trans (kp_alloc _ _) q
  have hb : PBox w.heap.size (.slice va L.length vc) root G cs w1 := (show PBox _ _ _ _ _ (w.alloc _) from alloc_new w _).kp q
  obtain ⟨c0, c1, c2, c3⟩ := hb.cells
  have HK : Hid (Kp w w1) := k1
  clear q k1 hb
  go_wp2_with fail
  refine Calls.mono (HP.out _ _ (kp_trans HK.out (kp_alloc _ _)) HK.out.size (alloc_new w1 _)) ?_
  rintro e w2 ⟨rfl, q⟩
  have HZ : Hid _ := q
  clear q
  go_wp2_with fail
  go_ret
  exact ⟨rfl, HZ.out⟩
end
end Go.Proofs.YthloemacfdgjjabGreatDoor
/- The chapter's examples, read and written by the models. -/
namespace Go.Proofs.YthloemacfdgjjabGreatDoor
open Go.ChangeShapes Go.WideShapes Go.ChangeAt Go.RowKit
set_option linter.unusedVariables false
set_option linter.unusedSimpArgs false
set_option maxRecDepth 100000
/-- What is told of a pattern that was read. -/
def see (R : Except (Nat × Nat) (Nat × RS)) : Except (Nat × Nat) (Nat × Nat × Nat × List Nd) :=
  match R with
  | .ok (i, r) => .ok (i, r.g, r.cs, r.nds)
  | .error x => .error x
def L1 : List Nd := [{ op := 2, c := 97 }, { op := 7, mn := 0, mx := -1, kids := [0] }]
def L2 : List Nd := [{ op := 2, c := 97 }, { op := 2, c := 98 }, { op := 8, n := 1, kids := [1] }, { op := 7, mn := 1, mx := -1, kids := [2] }, { op := 6, kids := [0, 3] }]
theorem kn1 : see (parF ⟨#[97, 42]⟩ ⟨#[]⟩) = .ok (1, 0, 0, L1) := by kernel_rfl
theorem kn2 : see (parF ⟨#[92, 118, 97, 124, 40, 98, 41, 43]⟩ ⟨#[]⟩) = .ok (4, 1, 0, L2) := by kernel_rfl
theorem kn3 : see (parF ⟨#[97, 92, 43, 92, 43]⟩ ⟨#[]⟩) = .error (32, 3) := by kernel_rfl
theorem ks1 : soundF (L1.map Nd.q) 1 0 = true := by kernel_rfl
theorem ks2 : soundF (L2.map Nd.q) 4 1 = true := by kernel_rfl
def T1 : List UInt8 := [48, 97, 58, 123, 48, 44, 45, 49, 125, 98, 54, 49]
def T2 : List UInt8 := [49, 97, 58, 40, 98, 54, 49, 124, 123, 49, 44, 45, 49, 125, 60, 49, 98, 54, 50, 62, 41]
theorem kp1 : prF (L1.map Nd.q) 20 [(headT 0 0, 1)] [] = some T1 := by kernel_rfl
theorem kp2 : prF (L2.map Nd.q) 40 [(headT 1 0, 4)] [] = some T2 := by kernel_rfl
end Go.Proofs.YthloemacfdgjjabGreatDoor
/- The law's known. -/
namespace Go.Proofs.YthloemacfdgjjabGreatDoor
open Go.ChangeShapes Go.WideShapes Go.ChangeAt Go.RowKit
set_option linter.unusedVariables false
set_option linter.unusedSimpArgs false
section
variable {w w1 : World}
/-- Parse, told by what is seen. -/
theorem parse_ok (s last : ByteArray) (g : Gl w) {i gs cs : Nat} {nds : List Nd} (h : see (parF s last) = .ok (i, gs, cs, nds)) :
    Calls Tryz.prog 7 #[.string s, .string last] w fun e w' => ∃ va vc, e = .returned (.tuple #[.agg #[.slice va nds.length vc, .int .i64 i, .int .i64 gs, .int .u8 cs], .int .u16 0, .int .i64 0]) ∧ Pt w' (.slice va nds.length vc) (nds.map Nd.q) ∧ Kp w w' := by
  obtain ⟨m, hm⟩ := g.max
  have := parse_any s last g.big hm
  cases hR : parF s last with
  | error x => rw [hR] at h; cases h
  | ok x =>
    obtain ⟨j, r⟩ := x
    rw [hR] at h this
    simp only [see, Except.ok.injEq, Prod.mk.injEq] at h
    obtain ⟨rfl, rfl, rfl, rfl⟩ := h
    refine this.mono ?_
    rintro e w' ⟨v, rfl, q1, q2⟩
    obtain ⟨va, vc, e, _⟩ := id q1
    rw [List.length_map] at e
    subst e
    exact ⟨va, vc, rfl, q1, q2⟩
theorem parse_no (s last : ByteArray) (g : Gl w) {n p : Nat} (h : see (parF s last) = .error (n, p)) :
    Calls Tryz.prog 7 #[.string s, .string last] w fun e w' => e = .returned (.tuple #[.agg #[.slice none 0 0, .int .i64 0, .int .i64 0, .int .u8 0], .int .u16 n, .int .i64 p]) ∧ Kp w w' := by
  obtain ⟨m, hm⟩ := g.max
  have := parse_any s last g.big hm
  cases hR : parF s last with
  | error x =>
    rw [hR] at h this
    simp only [see, Except.error.injEq] at h
    subst h
    exact this
  | ok x => rw [hR] at h; cases h
theorem nok1 : ∀ d ∈ L1.map Nd.q, Nok d := by
  intro d hd
  simp only [L1, List.map_cons, List.map_nil, List.mem_cons, List.not_mem_nil, or_false] at hd
  rcases hd with rfl | rfl <;> exact ⟨by decide, ⟨by decide, by decide, by decide, by decide⟩, by unfold Sm; decide, by unfold Sm; decide, by unfold Sm; decide⟩
theorem nok2 : ∀ d ∈ L2.map Nd.q, Nok d := by
  intro d hd
  simp only [L2, List.map_cons, List.map_nil, List.mem_cons, List.not_mem_nil, or_false] at hd
  rcases hd with rfl | rfl | rfl | rfl | rfl <;> exact ⟨by decide, ⟨by decide, by decide, by decide, by decide⟩, by unfold Sm; decide, by unfold Sm; decide, by unfold Sm; decide⟩
set_option maxHeartbeats 4000000 in
set_option maxRecDepth 100000 in
theorem known_any (g : Gl w) : Calls Tryz.prog 6 #[] w fun e w' => e = .returned (.bool true) ∧ Kp w w' := by
  have HG : Hid (Gl w) := g
  clear g
  go_enter Tryz.func6, Tryz.ntmps6
  go_wp2_with fail
  refine Calls.mono (parse_ok ⟨#[97, 42]⟩ ⟨#[]⟩ HG.out kn1) ?_
  rintro e w1 ⟨va1, vc1, rfl, q1, q2⟩
  have H1 : Hid (Pt w1 (.slice va1 2 vc1) (L1.map Nd.q) ∧ Kp w w1) := ⟨q1, q2⟩
  simp only [show L1.length = 2 from rfl]
  clear q1 q2
  go_wp2_with fail
  refine Calls.mono (parse_ok ⟨#[92, 118, 97, 124, 40, 98, 41, 43]⟩ ⟨#[]⟩ (HG.out.kp (kp_trans H1.out.2 (kp_alloc _ _))) kn2) ?_
  rintro e w2 ⟨va2, vc2, rfl, q1, q2⟩
  have H2 : Hid (Pt w2 (.slice va2 5 vc2) (L2.map Nd.q) ∧ Kp w w2 ∧ Kp w1 w2 ∧ PBox w1.heap.size (.slice va1 2 vc1) 1 0 0 w2) := ⟨q1, kp_trans (kp_trans H1.out.2 (kp_alloc _ _)) q2, kp_trans (kp_alloc _ _) q2, (show PBox _ _ _ _ _ (w1.alloc _) from alloc_new w1 _).kp q2⟩
  simp only [show L2.length = 5 from rfl]
  clear q1 q2
  go_wp2_with fail
  refine Calls.mono (parse_no ⟨#[97, 92, 43, 92, 43]⟩ ⟨#[]⟩ (HG.out.kp (kp_trans H2.out.2.1 (kp_alloc _ _))) kn3) ?_
  rintro e w3 ⟨rfl, q⟩
  have H3 : Hid (Kp w w3 ∧ Pt w3 (.slice va1 2 vc1) (L1.map Nd.q) ∧ Pt w3 (.slice va2 5 vc2) (L2.map Nd.q) ∧ PBox w1.heap.size (.slice va1 2 vc1) 1 0 0 w3 ∧ PBox w2.heap.size (.slice va2 5 vc2) 4 1 0 w3) :=
    ⟨kp_trans (kp_trans H2.out.2.1 (kp_alloc _ _)) q, (H1.out.1.kp H2.out.2.2.1).kp (kp_trans (kp_alloc _ _) q), H2.out.1.kp (kp_trans (kp_alloc _ _) q), H2.out.2.2.2.kp (kp_trans (kp_alloc _ _) q), (show PBox _ _ _ _ _ (w2.alloc _) from alloc_new w2 _).kp q⟩
  clear q
  have HA : Hid (∀ ob, PBox w1.heap.size (.slice va1 2 vc1) 1 0 0 (w3.alloc ob)) := fun ob => H3.out.2.2.2.1.kp (kp_alloc _ _)
  have y0 := fun ob => (HA.out ob).cells.1
  have y1 := fun ob => (HA.out ob).cells.2.1
  have y2 := fun ob => (HA.out ob).cells.2.2.1
  have y3 := fun ob => (HA.out ob).cells.2.2.2
  go_wp2_with fail
  refine Calls.mono (pprint_any (K := 2) (H3.out.2.1.kp (kp_alloc _ _)) (by decide) (by decide) (by decide) (HG.out.kp (kp_trans H3.out.1 (kp_alloc _ _))) (by unfold Sm; decide) nok1 ks1 kp1 (by decide)) ?_
  rintro e w4 ⟨rfl, q⟩
  have H4 : Hid (Kp w w4 ∧ Pt w4 (.slice va2 5 vc2) (L2.map Nd.q) ∧ PBox w2.heap.size (.slice va2 5 vc2) 4 1 0 w4) := ⟨kp_trans (kp_trans H3.out.1 (kp_alloc _ _)) q, H3.out.2.2.1.kp (kp_trans (kp_alloc _ _) q), H3.out.2.2.2.2.kp (kp_trans (kp_alloc _ _) q)⟩
  clear q y0 y1 y2 y3 HA
  obtain ⟨y0, y1, y2, y3⟩ := H4.out.2.2.cells
  unfold T1
  go_wp2_with fail
  refine Calls.mono (pprint_any (K := 2) H4.out.2.1 (by decide) (by decide) (by decide) (HG.out.kp H4.out.1) (by unfold Sm; decide) nok2 ks2 kp2 (by decide)) ?_
  rintro e w5 ⟨rfl, q⟩
  have H5 : Hid (Kp w w5) := kp_trans H4.out.1 q
  clear q y0 y1 y2 y3
  unfold T2
  go_wp2_with fail
  go_ret
  exact ⟨rfl, H5.out⟩
end
end Go.Proofs.YthloemacfdgjjabGreatDoor
/- Bounds in braces: what is read of a byte and what stands in braces behind it. -/
namespace Go.Proofs.YthloemacfdgjjabGreatDoor
open Go.ChangeShapes Go.WideShapes Go.ChangeAt Go.RowKit
set_option linter.unusedVariables false
set_option linter.unusedSimpArgs false
theorem byteAt_list (l : List UInt8) (k : Nat) : byteAt ⟨l.toArray⟩ k = ((l[k]?).map UInt8.toNat).getD 0 := rfl
theorem size_list (l : List UInt8) : (⟨l.toArray⟩ : ByteArray).size = l.length := by rw [Lib.size_eq]
section
variable (X : List UInt8)
theorem brace_next0 : nextF ⟨([97, 92, 123] ++ X).toArray⟩ ((⟨([97, 92, 123] ++ X).toArray⟩ : ByteArray).size + 1) 0 mdM 0 = .ok (⟨1, 97, 0⟩, 1, mdM, 0) := by
  rw [nextF]
  have ha : amo 97 mdM = false := by decide
  simp [tokOf, byteAt_list, size_list, ha]
theorem brace_next1 : nextF ⟨([97, 92, 123] ++ X).toArray⟩ ((⟨([97, 92, 123] ++ X).toArray⟩ : ByteArray).size + 1) 1 mdM 0 = .ok (⟨2, 123, 1⟩, 3, mdM, 0) := by
  rw [nextF]
  have ha : amo 123 mdM = false := by decide
  have hb : amo 123 mdV = true := by decide
  simp [tokOf, escTok, byteAt_list, size_list, ha, hb]
theorem next_end (s md : ByteArray) (cs : Nat) : nextF s (s.size + 1) s.size md cs = .ok (⟨0, 0, s.size⟩, s.size, md, cs) := by
  rw [nextF]
  simp [tokOf]
theorem brace_no (hX : X.length ≤ 200) (h : bndF ⟨([97, 92, 123] ++ X).toArray⟩ 3 = none) : see (parF ⟨([97, 92, 123] ++ X).toArray⟩ ⟨#[]⟩) = .error (32, 1) := by
  have hsz := size_list ([97, 92, 123] ++ X)
  have h0 := brace_next0 X
  have h1 := brace_next1 X
  generalize hs : (⟨([97, 92, 123] ++ X).toArray⟩ : ByteArray) = s at *
  obtain ⟨f, hf⟩ : ∃ f, s.size + 1 = f + 1 + 1 := ⟨s.size - 1, by rw [hsz]; simp⟩
  have hbr : ∀ P, (∀ r, P ⟨1, 97, 0⟩ true r = .ok (plF ⟨1, 97, 0⟩ r)) → brF P s (f + 1 + 1) rs0 [] = .error (32, 1) := fun P hP => by
    rw [brF]
    simp only [rs0, h0]
    rw [if_neg (by decide), if_neg (by decide)]
    simp only [List.isEmpty_nil, hP, plF, addN, List.length_nil, List.nil_append]
    rw [brF]
    simp only [h1]
    rw [if_neg (by decide), if_pos (by decide)]
    simp [manyF, opOf, repB, timesF, h]
  unfold parF patF
  rw [if_neg (by have e0 : (⟨#[]⟩ : ByteArray).size = 0 := rfl; rw [hsz, e0]; simp; omega), brsF, hf, brsL, hbr _ (fun r => by simp [pieceF])]
  rfl
theorem brace_ok (hX : X.length ≤ 200) {n : Nat} {mx : Int} {lz : Bool} (h : bndF ⟨([97, 92, 123] ++ X).toArray⟩ 3 = some (n, mx, lz, X.length + 3)) : see (parF ⟨([97, 92, 123] ++ X).toArray⟩ ⟨#[]⟩) = .ok (1, 0, 0, [{ op := 2, c := 97 }, { op := 7, mn := n, mx := mx, lz := lz, kids := [0] }]) := by
  have hsz := size_list ([97, 92, 123] ++ X)
  have h0 := brace_next0 X
  have h1 := brace_next1 X
  generalize hs : (⟨([97, 92, 123] ++ X).toArray⟩ : ByteArray) = s at *
  have hsz' : X.length + 3 = s.size := by rw [hsz]; simp
  rw [hsz'] at h
  have h2 := next_end s mdM 0
  obtain ⟨f, hf⟩ : ∃ f, s.size + 1 = f + 1 + 1 + 1 := ⟨s.size - 2, by rw [← hsz']; omega⟩
  have hbr : ∀ P, (∀ r, P ⟨1, 97, 0⟩ true r = .ok (plF ⟨1, 97, 0⟩ r)) → brF P s (f + 1 + 1 + 1) rs0 [] = .ok (1, ⟨0, 0, s.size⟩, { rs0 with k := s.size, nds := [{ op := 2, c := 97 }, { op := 7, mn := n, mx := mx, lz := lz, kids := [0] }] }) := fun P hP => by
    rw [brF]
    simp only [rs0, h0]
    rw [if_neg (by decide), if_neg (by decide)]
    simp only [List.isEmpty_nil, hP, plF, addN, List.length_nil, List.nil_append]
    rw [brF]
    simp only [h1]
    rw [if_neg (by decide), if_pos (by decide)]
    simp only [manyF, opOf, repB, timesF, h]
    simp
    rw [brF]
    simp only [h2]
    rw [if_pos (by rfl)]
    rfl
  unfold parF patF
  rw [if_neg (by have e0 : (⟨#[]⟩ : ByteArray).size = 0 := rfl; rw [hsz, e0]; simp; omega), brsF, hf, brsL, hbr _ (fun r => by simp [pieceF])]
  simp [joinF, see, rs0]
end
end Go.Proofs.YthloemacfdgjjabGreatDoor
/- Numbers in braces. -/
namespace Go.Proofs.YthloemacfdgjjabGreatDoor
open Go.ChangeShapes Go.WideShapes Go.ChangeAt Go.RowKit
set_option linter.unusedVariables false
set_option linter.unusedSimpArgs false
/-- A number at a text's head: it, and by how many digits. -/
def nL : List UInt8 → Nat → Nat → Option (Nat × Nat)
  | [], cnt, n => some (n, cnt)
  | b :: r, cnt, n => if digB b.toNat then (if 60 < 10 * n + (b.toNat - 48) ∨ 3 < cnt + 1 then none else nL r (cnt + 1) (10 * n + (b.toNat - 48))) else some (n, cnt)
theorem nL_app {c : UInt8} (hc : digB c.toNat = false) (r : List UInt8) : ∀ (x : List UInt8) (cnt n : Nat), nL (x ++ c :: r) cnt n = nL x cnt n := by
  intro x
  induction x with
  | nil => intro cnt n; simp [nL, hc]
  | cons b x ih =>
    intro cnt n
    rw [List.cons_append, nL, nL]
    split
    · split
      · rfl
      · exact ih _ _
    · rfl
theorem numG_list {s : ByteArray} {fr : Nat} : ∀ (f k n cnt : Nat), fr + cnt = k → s.size + 1 - k ≤ f → k ≤ s.size → numG s fr f k n = (nL (s.data.toList.drop k) cnt n).map (fun x => (x.1, fr + x.2)) := by
  intro f
  induction f with
  | zero => intro k n cnt _ h1 h2; omega
  | succ f ih =>
    intro k n cnt hc h1 h2
    have hsl : s.data.toList.length = s.size := (Lib.size_eq s).symm
    rw [numG]
    by_cases hk : k < s.size
    · rw [if_pos hk, List.drop_eq_getElem_cons (by rw [hsl]; exact hk), nL]
      have hb : byteAt s k = (s.data.toList[k]'(by rw [hsl]; exact hk)).toNat := by
        unfold byteAt; rw [List.getElem?_eq_getElem (by rw [hsl]; exact hk)]; rfl
      rw [← hb]
      split
      · rw [show k + 1 - fr = cnt + 1 by omega]
        split
        · rfl
        · exact ih (k + 1) _ (cnt + 1) (by omega) (by omega) (by omega)
      · simp [hc]
    · rw [if_neg hk, List.drop_eq_nil_of_le (by rw [hsl]; omega), nL]
      simp [hc]
theorem numF_list {l : List UInt8} {k : Nat} (hk : k ≤ l.length) : numF ⟨l.toArray⟩ k = (nL (l.drop k) 0 0).map (fun x => (x.1, k + x.2)) := by
  unfold numF
  exact numG_list _ k 0 0 (by omega) (by omega) (by rw [size_list]; exact hk)
def dR : Nat → Nat → List UInt8
  | 0, _ => []
  | f + 1, n => if n < 10 then [(48 + n).toUInt8] else dR f (n / 10) ++ dR f (n % 10)
def dG (n : Nat) : List UInt8 := dR 4 n
def dChk (n : Nat) : Bool := (match nL (dG n) 0 0 with | some (v, c) => decide (n ≤ 60) && v == n && c == (dG n).length | none => decide (60 < n)) && decide (1 ≤ (dG n).length ∧ (dG n).length ≤ 4) && (dG n).head? != some 45
theorem dChk_all : ∀ n : Fin 1200, dChk n.val = true := by decide +kernel
theorem dG_len {n : Nat} (h : n < 1200) : 1 ≤ (dG n).length ∧ (dG n).length ≤ 4 := by
  have := dChk_all ⟨n, h⟩
  simp only [dChk, Bool.and_eq_true, decide_eq_true_eq] at this
  exact this.1.2
theorem dG_head {n : Nat} (h : n < 1200) : (dG n).head? ≠ some 45 := by
  have := dChk_all ⟨n, h⟩
  simp only [dChk, Bool.and_eq_true, bne_iff_ne] at this
  exact this.2
theorem dG_num {n : Nat} (h : n < 1200) : nL (dG n) 0 0 = if n ≤ 60 then some (n, (dG n).length) else none := by
  have := dChk_all ⟨n, h⟩
  simp only [dChk, Bool.and_eq_true, decide_eq_true_eq] at this
  have h1 := this.1.1
  cases hq : nL (dG n) 0 0 with
  | none =>
    rw [hq] at h1
    simp only [decide_eq_true_eq] at h1
    rw [if_neg (by omega)]
  | some x =>
    obtain ⟨v, c⟩ := x
    rw [hq] at h1
    simp only [Bool.and_eq_true, decide_eq_true_eq, beq_iff_eq] at h1
    obtain ⟨⟨a, rfl⟩, rfl⟩ := h1
    rw [if_pos a]
/-- A number at a place, what is no digit behind it. -/
theorem num_at {l pre r : List UInt8} {c : UInt8} {n k : Nat} (hl : l = pre ++ (dG n ++ c :: r)) (hk : pre.length = k) (hn : n < 1200) (hc : digB c.toNat = false) : numF ⟨l.toArray⟩ k = if n ≤ 60 then some (n, k + (dG n).length) else none := by
  subst hl
  subst hk
  rw [numF_list (by simp), List.drop_left, nL_app hc, dG_num hn]
  split <;> rfl
theorem pfx_at {l pre r t : List UInt8} {k : Nat} (hl : l = pre ++ r) (hk : pre.length = k) : pfx ⟨l.toArray⟩ k ⟨t.toArray⟩ = Lib.hasPrefix r t := by
  subst hl
  subst hk
  show Lib.hasPrefix (List.drop pre.length (pre ++ r)) t = _
  rw [List.drop_left]
end Go.Proofs.YthloemacfdgjjabGreatDoor
/- What ~ is read as. -/
namespace Go.Proofs.YthloemacfdgjjabGreatDoor
open Go.ChangeShapes Go.WideShapes Go.ChangeAt Go.RowKit
set_option linter.unusedVariables false
set_option linter.unusedSimpArgs false
/-- The nodes of ~, and the root. -/
def tilN (l : List UInt8) : List Nd := if l.length = 0 then [{ op := 1 }] else if l.length = 1 then bytesN l else bytesN l ++ [{ op := 5, kids := List.range l.length }]
def tilR (l : List UInt8) : Nat := if l.length ≤ 1 then 0 else l.length
theorem again_til (l : List UInt8) : againF ⟨l.toArray⟩ { rs0 with k := 1 } = (tilR l, { rs0 with k := 1, nds := tilN l }) := by
  unfold againF
  rw [if_neg (by simp [rs0]), size_list]
  have e : ({ rs0 with k := 1 } : RS).nds.length = 0 := rfl
  rw [e]
  have e2 : (List.range l.length).map (0 + ·) = List.range l.length := by simp
  rw [e2]
  show joinF 5 (List.range l.length) { rs0 with k := 1, nds := [] ++ bytesN l } = _
  rw [List.nil_append]
  by_cases h0 : l.length = 0
  · have : l = [] := List.eq_nil_of_length_eq_zero h0
    subst this; rfl
  by_cases h1 : l.length = 1
  · have e3 : tilN l = bytesN l := by unfold tilN; rw [if_neg h0, if_pos h1]
    have e4 : tilR l = 0 := by unfold tilR; rw [if_pos (by omega)]
    rw [e3, e4, h1]; rfl
  obtain ⟨n, hn⟩ : ∃ n, l.length = n + 2 := ⟨l.length - 2, by omega⟩
  have e3 : tilN l = bytesN l ++ [{ op := 5, kids := List.range l.length }] := by unfold tilN; rw [if_neg h0, if_neg h1]
  have e4 : tilR l = l.length := by unfold tilR; rw [if_neg (by omega)]
  have e5 : List.range l.length = 0 :: 1 :: (List.range n).map (· + 2) := by
    rw [hn, List.range_succ_eq_map, List.range_succ_eq_map]; simp [Function.comp_def]
  have e6 : (bytesN l).length = l.length := by simp [bytesN]
  rw [e3, e4, e5]
  show addN { op := 5, kids := 0 :: 1 :: (List.range n).map (· + 2) } _ = _
  unfold addN
  simp only [e6]
theorem til_read {l : List UInt8} (hl : l.length ≤ 300) : see (parF ⟨#[126]⟩ ⟨l.toArray⟩) = .ok (tilR l, 0, 0, tilN l) := by
  have hn : nextF ⟨#[126]⟩ 2 0 mdM 0 = .ok (⟨2, 126, 0⟩, 1, mdM, 0) := by kernel_rfl
  have h2 : nextF ⟨#[126]⟩ 2 1 mdM 0 = .ok (⟨0, 0, 1⟩, 1, mdM, 0) := by kernel_rfl
  have hpc : ∀ G r, pieceF G ⟨#[126]⟩ ⟨l.toArray⟩ ⟨2, 126, 0⟩ true r = .ok (againF ⟨l.toArray⟩ r) := fun G r => by simp [pieceF, signF]
  have hbr : ∀ G, brF (pieceF G ⟨#[126]⟩ ⟨l.toArray⟩) ⟨#[126]⟩ 2 rs0 [] = .ok (tilR l, ⟨0, 0, 1⟩, { rs0 with k := 1, nds := tilN l }) := fun G => by
    rw [brF]
    have hn' : nextF ⟨#[126]⟩ ((⟨#[126]⟩ : ByteArray).size + 1) rs0.k rs0.md rs0.cs = .ok (⟨2, 126, 0⟩, 1, mdM, 0) := hn
    simp only [hn']
    rw [if_neg (by decide), if_neg (by decide)]
    simp only [List.isEmpty_nil, hpc]
    have ha : againF ⟨l.toArray⟩ { rs0 with k := 1, md := mdM, cs := 0 } = (tilR l, { rs0 with k := 1, nds := tilN l }) := again_til l
    rw [ha, brF]
    have h2' : nextF ⟨#[126]⟩ ((⟨#[126]⟩ : ByteArray).size + 1) 1 rs0.md rs0.cs = .ok (⟨0, 0, 1⟩, 1, mdM, 0) := h2
    simp only [h2']
    rw [if_pos (by rfl)]
    rfl
  have hlen : (tilN l).length ≤ 301 := by
    unfold tilN
    split
    · simp
    · split
      · simp [bytesN]; omega
      · simp [bytesN]; omega
  unfold parF patF
  have e0 : (⟨#[126]⟩ : ByteArray).size = 1 := rfl
  have e1 : (⟨l.toArray⟩ : ByteArray).size = l.length := size_list l
  rw [if_neg (by rw [e0, e1]; omega), brsF]
  show see (match brsL (fun r => brF (pieceF (groupF (brsF ⟨#[126]⟩ ⟨l.toArray⟩ 9)) ⟨#[126]⟩ ⟨l.toArray⟩) ⟨#[126]⟩ 2 r []) 2 rs0 [] with
    | .error e => .error e
    | .ok (i, t, r') => if t.kd ≠ 0 then .error (31, t.pl) else if 400 < r'.nds.length then .error (33, 0) else .ok (i, r')) = _
  rw [brsL, hbr]
  simp only [joinF, List.nil_append]
  rw [if_neg (by decide)]
  simp only
  rw [if_neg (by decide), if_neg (by show ¬ 400 < (tilN l).length; omega)]
  rfl
/-- Leaves that are asked for from the last on. -/
theorem tree_leaves {L : List Nq} {G : Int} : ∀ (k f : Nat) (asked : List Bool), k < f → k ≤ L.length → asked.length = L.length → (∀ i, i < k → ∃ c, L[i]? = some { op := 2, c := c }) → (∀ i, i < k → asked.getD i false = false) → treeF L G f ((List.range k).map fun (n : Nat) => (n : Int)) asked = true := by
  intro k
  induction k with
  | zero =>
    intro f asked hf _ _ _ _
    obtain ⟨f, rfl⟩ : ∃ f', f = f' + 1 := ⟨f - 1, by omega⟩
    simp [treeF]
  | succ k ih =>
    intro f asked hf hk hl hL hA
    obtain ⟨f, rfl⟩ : ∃ f', f = f' + 1 := ⟨f - 1, by omega⟩
    obtain ⟨c, hc⟩ := hL k (by omega)
    have hn : nodeAt L (k : Int) = { op := 2, c := c } := by unfold nodeAt; rw [Int.toNat_natCast, hc]; rfl
    have hh : hasB L (k : Int) = true := decide_eq_true ⟨by omega, by omega⟩
    rw [treeF, List.range_succ, List.map_append]
    simp only [List.map_cons, List.map_nil, List.getLast?_concat, List.dropLast_concat, hn, hh, Int.toNat_natCast, hA k (by omega)]
    rw [if_pos (by simp [fitB, leafB]), List.append_nil]
    refine ih f (asked.set k true) (by omega) (by omega) (by simp [hl]) (fun i hi => hL i (by omega)) (fun i hi => ?_)
    have := hA i (by omega)
    simp only [List.getD_eq_getElem?_getD, List.getElem?_set_ne (by omega : k ≠ i)] at this ⊢
    exact this
end Go.Proofs.YthloemacfdgjjabGreatDoor
/- The nodes of plain bytes: how many, which, and that they are sound. -/
namespace Go.Proofs.YthloemacfdgjjabGreatDoor
open Go.ChangeShapes Go.WideShapes Go.ChangeAt Go.RowKit
set_option linter.unusedVariables false
set_option linter.unusedSimpArgs false
theorem til_len (l : List UInt8) : (tilN l).length = if l.length ≤ 1 then 1 else l.length + 1 := by
  unfold tilN
  by_cases h0 : l.length = 0
  · rw [if_pos h0, if_pos (by omega)]; rfl
  by_cases h1 : l.length = 1
  · rw [if_neg h0, if_pos h1, if_pos (by omega)]; simp [bytesN, h1]
  · rw [if_neg h0, if_neg h1, if_neg (by omega)]; simp [bytesN]
theorem til_byte {l : List UInt8} {i : Nat} (hi : i < l.length) : (tilN l)[i]? = some { op := 2, c := (l[i]).toNat } := by
  have hb : (bytesN l)[i]? = some { op := 2, c := (l[i]).toNat } := by simp [bytesN, hi]
  unfold tilN
  rw [if_neg (by omega)]
  split
  · exact hb
  · rw [List.getElem?_append_left (by simp [bytesN]; exact hi)]; exact hb
theorem til_root {l : List UInt8} (hl : 2 ≤ l.length) : (tilN l)[l.length]? = some { op := 5, kids := List.range l.length } := by
  unfold tilN
  rw [if_neg (by omega), if_neg (by omega), List.getElem?_append_right (by simp [bytesN])]
  simp [bytesN]
theorem til_op (l : List UInt8) : ∀ d ∈ (tilN l).map Nd.q, (d.op = 1 ∨ d.op = 2 ∨ d.op = 5) ∧ d.kids.length ≤ l.length := by
  intro d hd
  unfold tilN at hd
  split at hd
  · simp at hd; subst hd; exact ⟨.inl rfl, Nat.zero_le _⟩
  · have hb : ∀ d ∈ (bytesN l).map Nd.q, (d.op = 1 ∨ d.op = 2 ∨ d.op = 5) ∧ d.kids.length ≤ l.length := by
      intro d hd
      simp only [bytesN, List.map_map, List.mem_map, Function.comp] at hd
      obtain ⟨b, _, rfl⟩ := hd
      exact ⟨.inr (.inl rfl), Nat.zero_le _⟩
    split at hd
    · exact hb d hd
    · rw [List.map_append, List.mem_append] at hd
      rcases hd with hd | hd
      · exact hb d hd
      · simp only [List.map_cons, List.map_nil, List.mem_singleton] at hd
        subst hd
        exact ⟨.inr (.inr rfl), by simp [Nd.q]⟩
theorem til_sound {l : List UInt8} (hl : l.length ≤ 300) : soundF ((tilN l).map Nd.q) (tilR l) 0 = true := by
  unfold soundF
  rw [decide_eq_true (by omega), Bool.true_and]
  have hlen := til_len l
  have hleaf : ∀ i, i < l.length → ∃ c, ((tilN l).map Nd.q)[i]? = some { op := 2, c := c } := fun i hi => ⟨(l[i]).toNat, by rw [List.getElem?_map, til_byte hi]; rfl⟩
  have hrep : ∀ (n i : Nat), (List.replicate n false).getD i false = false := fun n i => by
    simp only [List.getD_eq_getElem?_getD]
    cases h : (List.replicate n false)[i]? with
    | none => rfl
    | some b => have := List.mem_of_getElem? h; simp at this; exact this.2
  by_cases h0 : l.length = 0
  · have : l = [] := List.eq_nil_of_length_eq_zero h0
    subst this; rfl
  by_cases h1 : l.length = 1
  · have e4 : tilR l = 0 := by unfold tilR; rw [if_pos (by omega)]
    rw [e4]
    exact tree_leaves 1 _ _ (by rw [List.length_map, hlen, if_pos (by omega)]; omega) (by rw [List.length_map, hlen, if_pos (by omega)]; omega) (by simp) (fun i hi => hleaf i (by omega)) (fun i _ => hrep _ i)
  have e4 : tilR l = l.length := by unfold tilR; rw [if_neg (by omega)]
  rw [if_neg (by omega)] at hlen
  have hroot : nodeAt ((tilN l).map Nd.q) (l.length : Int) = { op := 5, kids := (List.range l.length).map fun (n : Nat) => (n : Int) } := by
    unfold nodeAt
    rw [Int.toNat_natCast, List.getElem?_map, til_root (by omega)]; rfl
  have hh : hasB ((tilN l).map Nd.q) (l.length : Int) = true := decide_eq_true ⟨by omega, by rw [List.length_map, hlen]; omega⟩
  rw [e4, treeF]
  simp only [List.getLast?_singleton, List.dropLast_singleton, hroot, hh, hrep, Int.toNat_natCast, List.nil_append]
  rw [if_pos (by simp [fitB, leafB]; omega)]
  refine tree_leaves l.length _ _ (by rw [List.length_map, hlen]; omega) (by rw [List.length_map, hlen]; omega) (by simp) hleaf (fun i hi => ?_)
  simp only [List.getD_eq_getElem?_getD, List.getElem?_set_ne (by omega : l.length ≠ i)]
  have := hrep ((tilN l).map Nd.q).length i
  simp only [List.getD_eq_getElem?_getD] at this
  exact this
end Go.Proofs.YthloemacfdgjjabGreatDoor
/- What plain bytes are read as, behind a mode's word or none. -/
namespace Go.Proofs.YthloemacfdgjjabGreatDoor
open Go.ChangeShapes Go.WideShapes Go.ChangeAt Go.RowKit
set_option linter.unusedVariables false
set_option linter.unusedSimpArgs false
/-- A mode's word, and the mode behind it. -/
def Md (m : List UInt8) (md : ByteArray) : Prop := (m = [] ∧ md = mdM) ∨ (m = [92, 118] ∧ md = mdV) ∨ (m = [92, 109] ∧ md = mdM) ∨ (m = [92, 77] ∧ md = mdN) ∨ (m = [92, 86] ∧ md = mdO)
theorem join_til (l : List UInt8) (r : RS) (h : r.nds = bytesN l) : joinF 5 (List.range l.length) r = (tilR l, { r with nds := tilN l }) := by
  obtain ⟨k, md, cs, g, cl, nds⟩ := r
  simp only at h
  subst h
  by_cases h0 : l.length = 0
  · have : l = [] := List.eq_nil_of_length_eq_zero h0
    subst this; rfl
  by_cases h1 : l.length = 1
  · have e3 : tilN l = bytesN l := by unfold tilN; rw [if_neg h0, if_pos h1]
    have e4 : tilR l = 0 := by unfold tilR; rw [if_pos (by omega)]
    rw [e3, e4, h1]; rfl
  obtain ⟨n, hn⟩ : ∃ n, l.length = n + 2 := ⟨l.length - 2, by omega⟩
  have e3 : tilN l = bytesN l ++ [{ op := 5, kids := List.range l.length }] := by unfold tilN; rw [if_neg h0, if_neg h1]
  have e4 : tilR l = l.length := by unfold tilR; rw [if_neg (by omega)]
  have e5 : List.range l.length = 0 :: 1 :: (List.range n).map (· + 2) := by
    rw [hn, List.range_succ_eq_map, List.range_succ_eq_map]; simp [Function.comp_def]
  have e6 : (bytesN l).length = l.length := by simp [bytesN]
  rw [e3, e4, e5]
  show addN { op := 5, kids := 0 :: 1 :: (List.range n).map (· + 2) } _ = _
  unfold addN
  simp only [e6]
section
variable {m t : List UInt8} {md : ByteArray}
theorem byte_at (i : Nat) (hi : i < t.length) : byteAt ⟨(m ++ t).toArray⟩ (m.length + i) = (t[i]).toNat := by
  unfold byteAt
  simp [hi]
theorem next_one (hb : ∀ b ∈ t, b ≠ 92 ∧ amo b.toNat md = false) (f i cs : Nat) (hi : i < t.length) : nextF ⟨(m ++ t).toArray⟩ (f + 1) (m.length + i) md cs = .ok (⟨1, (t[i]).toNat, m.length + i⟩, m.length + i + 1, md, cs) := by
  have hq := hb t[i] (List.getElem_mem hi)
  have h92 : (t[i]).toNat ≠ 92 := fun e => hq.1 (UInt8.toNat_inj.1 e)
  have ht : tokOf ⟨(m ++ t).toArray⟩ md (m.length + i) = some (⟨1, (t[i]).toNat, m.length + i⟩, m.length + i + 1) := by
    unfold tokOf
    rw [if_pos (by rw [size_list, List.length_append]; omega), byte_at i hi, if_neg h92, hq.2]
    rfl
  rw [nextF, ht]
  rfl
theorem next_fin (f cs : Nat) : nextF ⟨(m ++ t).toArray⟩ (f + 1) (m.length + t.length) md cs = .ok (⟨0, 0, m.length + t.length⟩, m.length + t.length, md, cs) := by
  have ht : tokOf ⟨(m ++ t).toArray⟩ md (m.length + t.length) = some (⟨0, 0, m.length + t.length⟩, m.length + t.length) := by
    unfold tokOf
    rw [if_neg (by rw [size_list, List.length_append]; omega)]
  rw [nextF, ht]
  rfl
theorem br_plain (hb : ∀ b ∈ t, b ≠ 92 ∧ amo b.toNat md = false) (G : Tok → RS → Except (Nat × Nat) (Nat × RS)) (last : ByteArray) : ∀ (j i f : Nat) (r : RS), i + j = t.length → j < f → r.k = m.length + i → r.md = md → r.nds = bytesN (t.take i) →
    brF (pieceF G ⟨(m ++ t).toArray⟩ last) ⟨(m ++ t).toArray⟩ f r (List.range i) = .ok (tilR t, ⟨0, 0, m.length + t.length⟩, { r with k := m.length + t.length, nds := tilN t }) := by
  intro j
  induction j with
  | zero =>
    intro i f r hi hf hk hm hn
    obtain ⟨f, rfl⟩ : ∃ f', f = f' + 1 := ⟨f - 1, by omega⟩
    obtain rfl : i = t.length := by omega
    rw [brF, hk, hm, next_fin]
    simp only
    rw [if_pos (by rfl)]
    rw [List.take_length] at hn
    have := join_til t { r with k := m.length + t.length, md := md } hn
    obtain ⟨rk, rmd, rcs, rg, rcl, rn⟩ := r
    simp only at hm hk hn this ⊢
    subst hm
    rw [this]
  | succ j ih =>
    intro i f r hi hf hk hm hn
    obtain ⟨f, rfl⟩ : ∃ f', f = f' + 1 := ⟨f - 1, by omega⟩
    rw [brF, hk, hm, next_one hb _ i _ (by omega)]
    simp only
    rw [if_neg (by simp [Tok.ends]), if_neg (by simp)]
    have hp : ∀ b q, pieceF G ⟨(m ++ t).toArray⟩ last ⟨1, (t[i]'(by omega)).toNat, m.length + i⟩ b q = .ok (addN { op := 2, c := (t[i]'(by omega)).toNat } q) := fun b q => rfl
    rw [hp]
    obtain ⟨rk, rmd, rcs, rg, rcl, rn⟩ := r
    simp only at hm hk hn ⊢
    subst hm hk hn
    simp only [addN]
    have e1 : (bytesN (t.take i)).length = i := by simp [bytesN]; omega
    rw [e1, ← List.range_succ]
    rw [ih (i + 1) f _ (by omega) (by omega) (by simp only; omega) rfl (by simp only; rw [List.take_succ_eq_append_getElem (by omega)]; unfold bytesN; rw [List.map_append]; rfl)]
theorem next_start (h : Md m md) (f cs : Nat) (hf : 1 ≤ f) : ∀ R, nextF ⟨(m ++ t).toArray⟩ f m.length md cs = R → nextF ⟨(m ++ t).toArray⟩ (f + 1) m.length md cs = R → nextF ⟨(m ++ t).toArray⟩ (f + 1) 0 mdM cs = R := by
  intro R h1 h2
  rcases h with ⟨rfl, rfl⟩ | ⟨rfl, rfl⟩ | ⟨rfl, rfl⟩ | ⟨rfl, rfl⟩ | ⟨rfl, rfl⟩
  · exact h2
  all_goals
    rw [← h1, nextF]
    unfold tokOf
    rw [if_pos (by rw [size_list]; simp), if_pos (by rfl), if_pos (by rw [size_list]; simp)]
    rfl
theorem plain_read (h : Md m md) (hb : ∀ b ∈ t, b ≠ 92 ∧ amo b.toNat md = false) (hl : t.length ≤ 100) : see (parF ⟨(m ++ t).toArray⟩ ⟨#[]⟩) = .ok (tilR t, 0, 0, tilN t) := by
  have hml : m.length ≤ 2 := by rcases h with ⟨rfl, _⟩ | ⟨rfl, _⟩ | ⟨rfl, _⟩ | ⟨rfl, _⟩ | ⟨rfl, _⟩ <;> simp
  have hsz : (⟨(m ++ t).toArray⟩ : ByteArray).size = m.length + t.length := by rw [size_list, List.length_append]
  have hbr : ∀ G, brF (pieceF G ⟨(m ++ t).toArray⟩ ⟨#[]⟩) ⟨(m ++ t).toArray⟩ (m.length + t.length + 1) rs0 [] = .ok (tilR t, ⟨0, 0, m.length + t.length⟩, { rs0 with k := m.length + t.length, md := md, nds := tilN t }) := fun G => by
    have q := br_plain (m := m) hb G ⟨#[]⟩ t.length 0 (m.length + t.length + 1) { rs0 with k := m.length, md := md } (by omega) (by omega) rfl rfl rfl
    rw [← q]
    rw [brF, brF]
    have e : nextF ⟨(m ++ t).toArray⟩ ((⟨(m ++ t).toArray⟩ : ByteArray).size + 1) 0 mdM 0 = nextF ⟨(m ++ t).toArray⟩ ((⟨(m ++ t).toArray⟩ : ByteArray).size + 1) m.length md 0 := by
      by_cases h0 : m.length + t.length = 0
      · obtain rfl : m = [] := List.eq_nil_of_length_eq_zero (by omega)
        rcases h with ⟨_, rfl⟩ | ⟨h, _⟩ | ⟨h, _⟩ | ⟨h, _⟩ | ⟨h, _⟩
        · rfl
        all_goals cases h
      obtain ⟨z, hz⟩ : ∃ z, m.length + t.length = z + 1 := ⟨m.length + t.length - 1, by omega⟩
      rw [hsz, hz]
      refine next_start h (z + 1) 0 (by omega) _ ?_ rfl
      by_cases ht : t.length = 0
      · have e1 := fun f => next_fin (m := m) (t := t) (md := md) f 0
        rw [ht, Nat.add_zero] at e1
        rw [e1, e1]
      · have e1 := fun f => next_one (m := m) hb f 0 0 (by omega)
        rw [Nat.add_zero] at e1
        rw [e1, e1]
    have e' : nextF ⟨(m ++ t).toArray⟩ ((⟨(m ++ t).toArray⟩ : ByteArray).size + 1) rs0.k rs0.md rs0.cs = nextF ⟨(m ++ t).toArray⟩ ((⟨(m ++ t).toArray⟩ : ByteArray).size + 1) m.length md 0 := e
    rw [e']
    rfl
  have hlen : (tilN t).length ≤ 101 := by
    unfold tilN
    split
    · simp
    · split
      · simp [bytesN]; omega
      · simp [bytesN]; omega
  unfold parF patF
  have e1 : (⟨#[]⟩ : ByteArray).size = 0 := rfl
  rw [if_neg (by rw [hsz, e1]; omega), brsF, hsz]
  rw [brsL, hbr]
  simp only [joinF, List.nil_append]
  rw [if_neg (by decide)]
  simp only
  rw [if_neg (by decide), if_neg (by show ¬ 400 < (tilN t).length; omega)]
  rfl
end
end Go.Proofs.YthloemacfdgjjabGreatDoor
/- What is printed of plain bytes. -/
namespace Go.Proofs.YthloemacfdgjjabGreatDoor
open Go.ChangeShapes Go.WideShapes Go.ChangeAt Go.RowKit
set_option linter.unusedVariables false
set_option linter.unusedSimpArgs false
def lf (b : UInt8) : List UInt8 := leafT (Nd.q { op := 2, c := b.toNat })
def plainT (t : List UInt8) : List UInt8 := headT 0 0 ++ (if t.length = 0 then [101] else if t.length = 1 then t.flatMap lf else [40] ++ t.flatMap lf ++ [41])
theorem lf_len (b : UInt8) : (lf b).length = 3 := by
  have h : ∀ n : Fin 256, (leafT (Nd.q { op := 2, c := n.val })).length = 3 := by decide +kernel
  exact h ⟨b.toNat, b.toNat_lt⟩
theorem head_len : headT 0 0 = [48, 97, 58] := by decide +kernel
section
variable {t : List UInt8}
theorem til_at {i : Nat} (hi : i < t.length) : nodeAt ((tilN t).map Nd.q) (i : Int) = Nd.q { op := 2, c := (t[i]).toNat } := by
  unfold nodeAt
  rw [Int.toNat_natCast, List.getElem?_map, til_byte hi]; rfl
theorem til_has {i : Nat} (hi : i < t.length) : hasB ((tilN t).map Nd.q) (i : Int) = true := by
  refine decide_eq_true ⟨by omega, ?_⟩
  rw [List.length_map, til_len]; split <;> omega
theorem tail_cons (x : List UInt8) (k : Int) (ks : List Int) : tailP x (k :: ks) = tailP x ks ++ [(x, k)] := by simp [tailP]
theorem pr_leaf {i n : Nat} {ps : List Part} {l x : List UInt8} (hi : i < t.length) (hl : l.length + x.length ≤ 800000) (hp : ps.length + 1 ≤ 800000) :
    prF ((tilN t).map Nd.q) (n + 1) (ps ++ [(x, (i : Int))]) l = prF ((tilN t).map Nd.q) n ps (l ++ x ++ lf t[i]) := by
  rw [prF, List.getLast?_concat]
  simp only [List.dropLast_concat]
  rw [if_neg (by rw [List.length_append]; simp; omega), if_neg (by omega), if_pos (by
    unfold okP
    rw [til_has hi, til_at hi]
    simp [inner, Nd.q]
    omega), til_at hi]
  have e1 : pushP (Nd.q { op := 2, c := (t[i]).toNat }) = [] := rfl
  have e2 : sayP (Nd.q { op := 2, c := (t[i]).toNat }) = lf t[i] := rfl
  rw [e1, e2, List.append_nil]
theorem pr_rest : ∀ (j i : Nat) (l : List UInt8), i + j = t.length → l.length + 3 * j ≤ 800 → j ≤ 200 →
    prF ((tilN t).map Nd.q) (j + 2) ([([41], -1)] ++ tailP [] ((List.range' i j).map fun (k : Nat) => (k : Int))) l = some (l ++ (t.drop i).flatMap lf ++ [41]) := by
  intro j
  induction j with
  | zero =>
    intro i l hi hl hj
    rw [List.drop_eq_nil_of_le (by omega)]
    simp [tailP, prF]
    omega
  | succ j ih =>
    intro i l hi hl hj
    rw [List.range'_succ, List.map_cons, tail_cons, ← List.append_assoc]
    rw [pr_leaf (by omega) (by simp; omega) (by simp [tailP]; omega), List.append_nil, ih (i + 1) _ (by omega) (by rw [List.length_append, lf_len]; omega) (by omega)]
    rw [List.drop_eq_getElem_cons (by omega : i < t.length), List.flatMap_cons]
    simp
theorem pr_plain (hl : t.length ≤ 100) : ∃ n, prF ((tilN t).map Nd.q) n [(headT 0 0, (tilR t : Int))] [] = some (plainT t) := by
  unfold plainT
  by_cases h0 : t.length = 0
  · have : t = [] := List.eq_nil_of_length_eq_zero h0
    subst this
    exact ⟨3, by kernel_rfl⟩
  by_cases h1 : t.length = 1
  · have e4 : tilR t = 0 := by unfold tilR; rw [if_pos (by omega)]
    refine ⟨2, ?_⟩
    rw [e4, if_neg h0, if_pos h1]
    have := pr_leaf (t := t) (i := 0) (n := 1) (ps := []) (l := []) (x := headT 0 0) (by omega) (by rw [head_len]; simp) (by simp)
    rw [List.nil_append] at this
    rw [this, prF]
    obtain ⟨c, rfl⟩ := List.length_eq_one_iff.1 h1
    simp
  have e4 : tilR t = t.length := by unfold tilR; rw [if_neg (by omega)]
  obtain ⟨n, hn⟩ : ∃ n, t.length = n + 1 := ⟨t.length - 1, by omega⟩
  refine ⟨n + 2 + 1 + 1, ?_⟩
  rw [e4, if_neg h0, if_neg h1]
  have hroot : nodeAt ((tilN t).map Nd.q) (t.length : Int) = { op := 5, kids := (List.range t.length).map fun (n : Nat) => (n : Int) } := by
    unfold nodeAt
    rw [Int.toNat_natCast, List.getElem?_map, til_root (by omega)]; rfl
  have hh : hasB ((tilN t).map Nd.q) (t.length : Int) = true := decide_eq_true ⟨by omega, by rw [List.length_map, til_len, if_neg (by omega)]; omega⟩
  rw [prF]
  simp only [List.getLast?_singleton, List.dropLast_singleton]
  rw [if_neg (by rw [head_len]; simp), if_neg (by omega), if_pos (by
    unfold okP
    rw [hh, hroot]
    have hne : t ≠ [] := fun e => h0 (by rw [e]; rfl)
    simp [inner, hne]
    omega), hroot]
  have e5 : (List.range t.length).map (fun (n : Nat) => (n : Int)) = 0 :: (List.range' 1 n).map (fun (n : Nat) => (n : Int)) := by
    rw [List.range_eq_range', hn, List.range'_succ]; rfl
  have e6 : pushP { op := 5, kids := (List.range t.length).map fun (n : Nat) => (n : Int) } = ([([41], -1)] ++ tailP [] ((List.range' 1 n).map fun (n : Nat) => (n : Int))) ++ [([40], ((0 : Nat) : Int))] := by
    rw [e5]; rfl
  have e7 : sayP { op := 5, kids := (List.range t.length).map fun (n : Nat) => (n : Int) } = [] := rfl
  rw [e6, e7, List.nil_append, pr_leaf (by omega) (by rw [head_len]; simp) (by simp [tailP]; omega), pr_rest n 1 _ (by omega) (by simp only [List.length_append, lf_len, head_len, List.length_nil, List.length_cons]; omega) (by omega)]
  have e8 : t.flatMap lf = lf (t[0]'(by omega)) ++ (t.drop 1).flatMap lf := by
    have : t = t[0]'(by omega) :: t.drop 1 := by
      have := List.drop_eq_getElem_cons (l := t) (i := 0) (by omega)
      simpa using this
    rw [← List.flatMap_cons, ← this]
  rw [e8]
  simp
end
end Go.Proofs.YthloemacfdgjjabGreatDoor
/- PatPlain: is a text of letters, digits and blanks alone? -/
namespace Go.Proofs.YthloemacfdgjjabGreatDoor
open Go.ChangeShapes Go.WideShapes Go.ChangeAt Go.RowKit
set_option linter.unusedVariables false
set_option linter.unusedSimpArgs false
def pB (c : Nat) : Bool := decide (97 ≤ c ∧ c ≤ 122) || decide (65 ≤ c ∧ c ≤ 90) || decide (48 ≤ c ∧ c ≤ 57) || decide (c = 32)
section
variable {w w1 : World}
set_option maxHeartbeats 4000000 in
set_option maxRecDepth 100000 in
theorem lplain_any (s : ByteArray) (w : World) (hs : s.size ≤ 400) : Calls Tryz.prog 10 #[.string s] w fun e w' => e = .returned (.bool (s.data.toList.all fun b => pB b.toNat)) ∧ w' = w := by
  obtain ⟨X, hX⟩ : ∃ X, (s.data.toList.all fun b => pB b.toNat) = X := ⟨_, rfl⟩
  obtain ⟨n, hn⟩ : ∃ n, s.size = n := ⟨_, rfl⟩
  rw [hX]
  have HX : Hid ((s.data.toList.all fun b => pB b.toNat) = X ∧ s.size = n ∧ s.data.toList.length = n) := ⟨hX, hn, by rw [Array.length_toList]; exact hn⟩
  clear hX
  go_enter Tryz.func10, Tryz.ntmps10
  go_wp2_with fail
  go_loopw [3] (fun v2 wr => ∃ i : Nat, i ≤ n ∧ v2 = .int .i64 i ∧ ((s.data.toList.drop i).all fun b => pB b.toNat) = X ∧ wr = w) (fun v2 _ => n - (intOf v2).toNat)
  case atStart => exact ⟨0, Nat.zero_le _, rfl, HX.out.1, rfl⟩
  case round =>
    obtain ⟨i, hi, rfl, hd, rfl⟩ := hrel
    by_cases hlt : i < n
    · have dl : decide ((i : Int) < (n : Int)) = true := decide_eq_true (by omega)
      have hil : i < s.size := by rw [hn]; exact hlt
      have hil2 : i < s.data.toList.length := by rw [HX.out.2.2]; exact hlt
      obtain ⟨c, hc⟩ : ∃ c, s[i]'hil = c := ⟨_, rfl⟩
      have hc2 : s.data.toList[i]'hil2 = c := by rw [← hc]; rfl
      have HD : Hid ((pB c.toNat && ((s.data.toList.drop (i + 1)).all fun b => pB b.toNat)) = X) := by
        show _ = X
        rw [← hd, List.drop_eq_getElem_cons hil2, List.all_cons, hc2]
      clear hd hc2 hil2
      cases hp : pB c.toNat
      · have hX : X = false := by rw [← HD.out, hp]; rfl
        subst hX
        have HP : Hid (pB c.toNat = false) := hp
        clear hp HD HX
        go_wp2_with fail
        all_goals first
          | (go_ret; exact ⟨rfl, rfl⟩)
          | (exfalso
             have hq := HP.out
             unfold pB at hq
             simp at hq
             simp_all
             try omega)
      · have HP : Hid (pB c.toNat = true ∧ ((s.data.toList.drop (i + 1)).all fun b => pB b.toNat) = X) := ⟨hp, by rw [← HD.out, hp]; rfl⟩
        clear hp HD
        go_wp2_with fail
        all_goals first
          | exact ⟨⟨i + 1, by omega, by go_num, HP.out.2, trivial⟩, by simp [intOf]; omega⟩
          | (exfalso
             have hq := HP.out.1
             unfold pB at hq
             simp at hq
             simp_all
             try omega)
    · obtain rfl : i = n := by omega
      have dl : decide ((i : Int) < (i : Int)) = false := by simp
      have hX : X = true := by rw [← hd, List.drop_eq_nil_of_le (by rw [HX.out.2.2]; omega)]; rfl
      subst hX
      clear hd
      go_wp2_with fail
      go_ret
      exact ⟨rfl, rfl⟩
end
end Go.Proofs.YthloemacfdgjjabGreatDoor
/- PatPlain: the walk, over what known, Parse and Print come to. -/
namespace Go.Proofs.YthloemacfdgjjabGreatDoor
open Go.ChangeShapes Go.WideShapes Go.ChangeAt Go.RowKit
set_option linter.unusedVariables false
set_option linter.unusedSimpArgs false
def words : List (List UInt8) := [[92, 118], [92, 109], [92, 77], [92, 86], []]
def hxs : List UInt8 := [48, 49, 50, 51, 52, 53, 54, 55, 56, 57, 97, 98, 99, 100, 101, 102]
def hexL (b : UInt8) : List UInt8 := [98, hxs.getD (b.toNat / 16) 0, hxs.getD (b.toNat % 16) 0]
def wantT (l : List UInt8) : List UInt8 := if l.length = 0 then [101] else if l.length = 1 then l.flatMap hexL else [40] ++ l.flatMap hexL ++ [41]
def Fit (m l : List UInt8) : Prop := (m ∈ words ∧ (l.all fun b => pB b.toNat) = true) ∨ (m = [92, 86] ∧ ∀ b ∈ l, b ≠ 92)
def Goes (w : World) (l : List UInt8) : Prop := (∀ x, Kp w x → Calls Tryz.prog 6 #[] x fun e w' => e = .returned (.bool true) ∧ Kp x w') ∧
  ∀ m, Fit m l → ∀ x, Kp w x → Calls Tryz.prog 7 #[.string ⟨(m ++ l).toArray⟩, .string ⟨#[]⟩] x fun e w' => ∃ va N vc R, e = .returned (.tuple #[.agg #[.slice va N vc, .int .i64 R, .int .i64 0, .int .u8 0], .int .u16 0, .int .i64 0]) ∧ Kp x w' ∧
    ∀ y, Kp w' y → Calls Tryz.prog 9 #[.agg #[.slice va N vc, .int .i64 R, .int .i64 0, .int .u8 0]] y fun e w'' => e = .returned (.string ⟨([48, 97, 58] ++ wantT l).toArray⟩) ∧ Kp y w''
section
variable {w w1 : World}
theorem kpc {w w1 : World} (k : Kp w w1) {a : Addr} {u : Value} (h : w.cell? a = some u) : w1.cell? a = some u := by
  rw [World.cell?_of_block (k.block _ ?_)]
  · exact h
  · rcases Nat.lt_or_ge a.block w.heap.size with q | q
    · exact q
    · simp [World.cell?, Array.getElem?_eq_none q] at h
def hxA : ByteArray := ⟨#[48, 49, 50, 51, 52, 53, 54, 55, 56, 57, 97, 98, 99, 100, 101, 102]⟩
theorem hx_slice (a : Nat) (ha : a < 16) (W : World) : (Instr.slice 9 (.string ⟨#[48, 49, 50, 51, 52, 53, 54, 55, 56, 57, 97, 98, 99, 100, 101, 102]⟩) (some (.int .u8 (a : Int))) (some (.int .u8 ((a : Int) + 1))) none).run Tryz.prog W = .ok (.string ⟨#[hxs.getD a 0]⟩) W := by
  have hs : (⟨#[48, 49, 50, 51, 52, 53, 54, 55, 56, 57, 97, 98, 99, 100, 101, 102]⟩ : ByteArray).size = 16 := rfl
  rw [run_slice_string (P := Tryz.prog) W 9 _ .u8 .u8 (a : Int) ((a : Int) + 1) Tryz.underlying9 (by omega) (by omega) (by rw [hs]; omega)]
  have e : ((a : Int) + 1).toNat = a + 1 := by omega
  rw [Int.toNat_natCast, e]
  have h : ∀ k : Fin 16, (ByteArray.extract ⟨#[48, 49, 50, 51, 52, 53, 54, 55, 56, 57, 97, 98, 99, 100, 101, 102]⟩ k.val (k.val + 1)).data.toList = [hxs.getD k.val 0] := by decide +kernel
  have h2 := h ⟨a, ha⟩
  simp only at h2
  congr 2
  apply ByteArray.ext
  rw [← Array.toList_inj, h2]
theorem hexL_len (t : List UInt8) : (t.flatMap hexL).length = 3 * t.length := by
  induction t with
  | nil => rfl
  | cons b t ih => rw [List.flatMap_cons, List.length_append, ih, List.length_cons]; simp only [hexL, List.length_cons, List.length_nil]; omega
theorem catS {x y z : List UInt8} (h : x ++ y = z) (hz : z.length ≤ 8000000) (W : World) : (Op.stringOp .add ⟨x.toArray⟩ ⟨y.toArray⟩).run Tryz.prog W = .ok (.string ⟨z.toArray⟩) W := by
  subst h
  rw [List.length_append] at hz
  exact run_string_add_lists W x y (by omega) (by omega)
set_option maxHeartbeats 4000000 in
set_option maxRecDepth 100000 in
theorem plain_walk (l : List UInt8) (mode : Nat) (hm : mode < 256) (g : (∀ x, Kp w x → Calls Tryz.prog 6 #[] x fun e w' => e = .returned (.bool true) ∧ Kp x w') ∧ (l.length ≤ 100 → Goes w l)) : Calls Tryz.prog 4 #[.string ⟨l.toArray⟩, .int .u8 mode] w fun e w' => e = .returned (.bool true) ∧ Kp w w' := by
  obtain ⟨n, hn⟩ : ∃ n, l.length = n := ⟨_, rfl⟩
  obtain ⟨S, hS⟩ : ∃ S : ByteArray, (⟨l.toArray⟩ : ByteArray) = S := ⟨_, rfl⟩
  have hsz : S.size = n := by rw [← hS]; show l.toArray.size = n; simpa using hn
  have HS : Hid ((⟨l.toArray⟩ : ByteArray) = S ∧ l.length = n) := ⟨hS, hn⟩
  rw [hS]
  clear hS hn
  by_cases hbig : 100 < n
  · have d1 : decide ((100 : Int) < (n : Int)) = true := decide_eq_true (by omega)
    have HG : Hid (∀ x, Kp w x → Calls Tryz.prog 6 #[] x fun e w' => e = .returned (.bool true) ∧ Kp x w') := g.1
    clear g
    go_enter Tryz.func4, Tryz.ntmps4
    go_wp2_with fail
    refine Calls.mono (HG.out _ (Below.refl _ _)) ?_
    rintro e w1 ⟨rfl, q⟩
    have H1 : Hid (Kp w w1) := q
    clear q
    go_wp2_with fail
    go_ret
    exact ⟨rfl, H1.out⟩
  have d1 : decide ((100 : Int) < (n : Int)) = false := decide_eq_false (by omega)
  have HG : Hid (Goes w l) := g.2 (by rw [HS.out.2]; omega)
  clear g
  obtain ⟨M, hM⟩ : ∃ M, mode % 5 = M := ⟨_, rfl⟩
  have hM2 : (mode : Int) % 5 = (M : Int) := by omega
  have hM5 : M < 5 := by omega
  have dM : decide ((M : Int) < 5) = true := decide_eq_true (by omega)
  obtain ⟨mw, hmw⟩ : ∃ mw, words.getD M [] = mw := ⟨_, rfl⟩
  have HM : Hid (mw ∈ words ∧ mw.length ≤ 2) := by
    show _ ∧ _
    rw [← hmw]
    have : ∀ M : Fin 5, words.getD M.val [] ∈ words ∧ (words.getD M.val []).length ≤ 2 := by decide
    exact this ⟨M, hM5⟩
  have hget : ([Value.string ⟨#[92, 118]⟩, Value.string ⟨#[92, 109]⟩, Value.string ⟨#[92, 77]⟩, Value.string ⟨#[92, 86]⟩, Value.string ⟨#[]⟩] : List Value)[M]'hM5 = .string ⟨mw.toArray⟩ := by
    rw [← hmw]
    have : ∀ M : Fin 5, ([Value.string ⟨#[92, 118]⟩, Value.string ⟨#[92, 109]⟩, Value.string ⟨#[92, 77]⟩, Value.string ⟨#[92, 86]⟩, Value.string ⟨#[]⟩] : List Value)[M.val]'M.isLt = .string ⟨(words.getD M.val []).toArray⟩ := by
      intro M
      match M with
      | ⟨0, _⟩ => rfl
      | ⟨1, _⟩ => rfl
      | ⟨2, _⟩ => rfl
      | ⟨3, _⟩ => rfl
      | ⟨4, _⟩ => rfl
    exact this ⟨M, hM5⟩
  clear hM hmw
  go_enter Tryz.func4, Tryz.ntmps4
  go_wp2_with fail
  refine Calls.mono (HG.out.1 _ (Below.refl _ _)) ?_
  rintro e w1 ⟨rfl, q⟩
  have H1 : Hid (Kp w w1) := q
  clear q
  go_wp2_with fail
  refine Calls.mono (lplain_any S _ (by rw [hsz]; omega)) ?_
  rintro e w2 ⟨rfl, rfl⟩
  have HW2 : Hid (Kp w (w1.alloc (.cells #[.string ⟨#[92, 118]⟩, .string ⟨#[92, 109]⟩, .string ⟨#[92, 77]⟩, .string ⟨#[92, 86]⟩, .string ⟨#[]⟩] 9))) := kp_trans H1.out (kp_alloc _ _)
  generalize w1.alloc (.cells #[.string ⟨#[92, 118]⟩, .string ⟨#[92, 109]⟩, .string ⟨#[92, 77]⟩, .string ⟨#[92, 86]⟩, .string ⟨#[]⟩] 9) = w2 at HW2 ⊢
  have e0 : S.data.toList = l := by rw [← HS.out.1]
  rw [e0]
  clear e0
  cases hp : (l.all fun b => pB b.toNat) with
  | true =>
    have HF : Hid (Fit mw l) := .inl ⟨HM.out.1, hp⟩
    clear hp
    obtain ⟨Z, hZ⟩ : ∃ Z : ByteArray, (⟨(mw ++ l).toArray⟩ : ByteArray) = Z := ⟨_, rfl⟩
    have hcat : ∀ W, (Op.stringOp .add ⟨mw.toArray⟩ S).run Tryz.prog W = .ok (.string Z) W := fun W => by
      rw [← hZ, ← HS.out.1]
      exact catS rfl (by have := HM.out.2; have := HS.out.2; rw [List.length_append]; omega) W
    have HPa := HG.out.2 mw HF.out
    rw [hZ] at HPa
    have HP : Hid _ := HPa
    clear HPa hZ
    go_wp2_with fail
    refine Calls.mono (HP.out _ HW2.out) ?_
    rintro e w3 ⟨va, N, vc, R, rfl, q, hpr⟩
    have H3 : Hid (Kp w w3 ∧ ∀ y, Kp w3 y → Calls Tryz.prog 9 #[.agg #[.slice va N vc, .int .i64 R, .int .i64 0, .int .u8 0]] y fun e w'' => e = .returned (.string ⟨([48, 97, 58] ++ wantT l).toArray⟩) ∧ Kp y w'') := ⟨kp_trans HW2.out q, hpr⟩
    clear q hpr hcat hget
    go_wp2_with fail
    go_loopw [10, 11] (fun v10 v11 wr => ∃ j : Nat, j ≤ n ∧ v11 = .int .i64 j ∧ v10 = .string ⟨((l.take j).flatMap hexL).toArray⟩ ∧ Kp w3 wr ∧ wr.cell? ⟨w3.heap.size, 0, none⟩ = some (.slice va N vc) ∧ wr.cell? ⟨w3.heap.size, 1, none⟩ = some (.int .i64 R) ∧ wr.cell? ⟨w3.heap.size, 2, none⟩ = some (.int .i64 0) ∧ wr.cell? ⟨w3.heap.size, 3, none⟩ = some (.int .u8 0)) (fun _ v11 _ => n - (intOf v11).toNat)
    case atStart => exact ⟨0, Nat.zero_le _, rfl, rfl, kp_alloc _ _, cell_at (alloc_new w3 _) 0, cell_at (alloc_new w3 _) 1, cell_at (alloc_new w3 _) 2, cell_at (alloc_new w3 _) 3⟩
    case round =>
      obtain ⟨j, hj, rfl, rfl, hK, y0, y1, y2, y3⟩ := hrel
      have HK : Hid (Kp w3 wr) := hK
      clear hK
      by_cases hlt : j < n
      · have dl : decide ((j : Int) < (n : Int)) = true := decide_eq_true (by omega)
        have hil : j < S.size := by rw [hsz]; exact hlt
        obtain ⟨c, hc⟩ : ∃ c, S[j]'hil = c := ⟨_, rfl⟩
        obtain ⟨x, hx⟩ : ∃ x, (l.take j).flatMap hexL = x := ⟨_, rfl⟩
        rw [hx]
        obtain ⟨A, hA⟩ : ∃ A, c.toNat / 16 = A := ⟨_, rfl⟩
        obtain ⟨B, hB⟩ : ∃ B, c.toNat % 16 = B := ⟨_, rfl⟩
        have hc256 : c.toNat < 256 := c.toNat_lt
        have hA1 : (c.toNat : Int) / 16 = (A : Int) := by omega
        have hB1 : (c.toNat : Int) % 16 = (B : Int) := by omega
        have sl1 := hx_slice A (by omega)
        have sl2 := hx_slice B (by omega)
        have hxl : x.length ≤ 300 := by rw [← hx, hexL_len, List.length_take]; omega
        obtain ⟨x1, hx1⟩ : ∃ x1, x ++ [98] = x1 := ⟨_, rfl⟩
        obtain ⟨h1, hh1⟩ : ∃ h1, hxs.getD A 0 = h1 := ⟨_, rfl⟩
        obtain ⟨h2, hh2⟩ : ∃ h2, hxs.getD B 0 = h2 := ⟨_, rfl⟩
        rw [hh1] at sl1
        rw [hh2] at sl2
        obtain ⟨x2, hx2⟩ : ∃ x2, x1 ++ [h1] = x2 := ⟨_, rfl⟩
        obtain ⟨x3, hx3⟩ : ∃ x3, x2 ++ [h2] = x3 := ⟨_, rfl⟩
        have ct1 := catS hx1 (by rw [← hx1, List.length_append, List.length_singleton]; omega)
        have ct2 := catS hx2 (by rw [← hx2, ← hx1]; simp only [List.length_append, List.length_singleton]; omega)
        have ct3 := catS hx3 (by rw [← hx3, ← hx2, ← hx1]; simp only [List.length_append, List.length_singleton]; omega)
        have HX : Hid (x3 = (l.take (j + 1)).flatMap hexL) := by
          show x3 = _
          have hjl : j < l.length := by rw [HS.out.2]; exact hlt
          have hcl : l[j] = c := by rw [← hc]; simp only [← HS.out.1]; rfl
          rw [List.take_succ_eq_append_getElem hjl, List.flatMap_append, hx, hcl, ← hx3, ← hx2, ← hx1, ← hh1, ← hh2, ← hA, ← hB]
          simp [hexL]
        clear hx hh1 hh2 hx1 hx2 hx3 hA hB hxl
        go_wp2_with fail
        go_quiet (fail)
        go_wp2_with fail
        go_roundw
        case rel => exact ⟨j + 1, by omega, by go_num, by rw [HX.out], kp_trans HK.out (kp_drewN _ _), kpc (kp_drewN _ _) y0, kpc (kp_drewN _ _) y1, kpc (kp_drewN _ _) y2, kpc (kp_drewN _ _) y3⟩
        case measure => simp [intOf]; omega
      · obtain rfl : j = n := by omega
        have dl : decide ((j : Int) < (j : Int)) = false := by simp
        rw [List.take_of_length_le (by rw [HS.out.2]; omega)]
        obtain ⟨fl, hfl⟩ : ∃ fl, l.flatMap hexL = fl := ⟨_, rfl⟩
        have hll : fl.length ≤ 300 := by rw [← hfl, hexL_len, HS.out.2]; omega
        rw [hfl]
        obtain ⟨P, hP⟩ : ∃ P, wantT l = P := ⟨_, rfl⟩
        have hPr := H3.out.2
        rw [hP] at hPr
        obtain ⟨X, hX⟩ : ∃ X, [48, 97, 58] ++ P = X := ⟨_, rfl⟩
        rw [hX] at hPr
        have HPr : Hid (∀ y, Kp w3 y → Calls Tryz.prog 9 #[.agg #[.slice va N vc, .int .i64 R, .int .i64 0, .int .u8 0]] y fun e w'' => e = .returned (.string ⟨X.toArray⟩) ∧ Kp y w'') := hPr
        have HW : Hid (Kp w wr) := kp_trans H3.out.1 HK.out
        unfold wantT at hP
        rw [HS.out.2, hfl] at hP
        clear hPr
        rcases (by omega : j = 0 ∨ j = 1 ∨ 1 < j) with rfl | rfl | h2
        · rw [if_pos rfl] at hP
          have ct0 := catS (show [48, 97, 58] ++ [101] = X from by rw [← hX, ← hP]) (by rw [← hX, ← hP]; simp)
          clear hP hX hfl
          go_wp2_with fail
          refine Calls.mono (HPr.out _ HK.out) ?_
          rintro e w4 ⟨rfl, q⟩
          have H4 : Hid (Kp w w4) := kp_trans HW.out q
          clear q
          go_wp2_with fail
          go_ret
          exact ⟨by simp, H4.out⟩
        · rw [if_neg (by omega), if_pos rfl] at hP
          have ct0 := catS (show [48, 97, 58] ++ fl = X from by rw [← hX, ← hP]) (by rw [← hX, ← hP]; simp; omega)
          clear hP hX hfl
          go_wp2_with fail
          refine Calls.mono (HPr.out _ HK.out) ?_
          rintro e w4 ⟨rfl, q⟩
          have H4 : Hid (Kp w w4) := kp_trans HW.out q
          clear q
          go_wp2_with fail
          go_ret
          exact ⟨by simp, H4.out⟩
        · rw [if_neg (by omega), if_neg (by omega)] at hP
          have d2 : decide ((1 : Int) < (j : Int)) = true := decide_eq_true (by omega)
          have d3 : ((j : Int) == 0) = false := by simp; omega
          obtain ⟨f1, hf1⟩ : ∃ f1, [40] ++ fl = f1 := ⟨_, rfl⟩
          rw [hf1] at hP
          have ct1 := catS hf1 (by rw [← hf1]; simp; omega)
          have ct2 := catS hP (by rw [← hP, ← hf1]; simp; omega)
          have ct0 := catS hX (by rw [← hX, ← hP, ← hf1]; simp; omega)
          clear hP hX hfl hf1 hll
          go_wp2_with fail
          refine Calls.mono (HPr.out _ HK.out) ?_
          rintro e w4 ⟨rfl, q⟩
          have H4 : Hid (Kp w w4) := kp_trans HW.out q
          clear q
          go_wp2_with fail
          go_ret
          exact ⟨by simp, H4.out⟩
  | false =>
    clear hp hget
    go_wp2_with fail
    go_loopw [6] (fun v6 wr => ∃ i : Nat, i ≤ n ∧ v6 = .int .i64 i ∧ (∀ b ∈ l.take i, b ≠ 92) ∧ wr = w2) (fun v6 _ => n - (intOf v6).toNat)
    case atStart => exact ⟨0, Nat.zero_le _, rfl, by simp, rfl⟩
    case round =>
      obtain ⟨i, hi, rfl, hno, rfl⟩ := hrel
      have HNo : Hid (∀ b ∈ l.take i, b ≠ 92) := hno
      clear hno
      by_cases hlt : i < n
      · have dl : decide ((i : Int) < (n : Int)) = true := decide_eq_true (by omega)
        have hil : i < S.size := by rw [hsz]; exact hlt
        obtain ⟨c, hc⟩ : ∃ c, S[i]'hil = c := ⟨_, rfl⟩
        have HC : Hid (∃ h : i < l.length, l[i] = c) := ⟨by rw [HS.out.2]; exact hlt, by rw [← hc]; simp only [← HS.out.1]; rfl⟩
        by_cases h92 : c.toNat = 92
        · have e92 : ((c.toNat : Int) == 92) = true := by simp; omega
          go_wp2_with fail
          go_ret
          exact ⟨rfl, HW2.out⟩
        · have e92 : ((c.toNat : Int) == 92) = false := by simp; omega
          go_wp2_with fail
          go_roundw
          case rel =>
            refine ⟨i + 1, by omega, by go_num, ?_, by simp⟩
            obtain ⟨h, hc2⟩ := HC.out
            intro b hb
            rw [List.take_succ_eq_append_getElem h, List.mem_append] at hb
            rcases hb with hb | hb
            · exact HNo.out b hb
            · rw [List.mem_singleton, hc2] at hb
              subst hb
              intro e
              exact h92 (by rw [e]; rfl)
          case measure => simp [intOf]; omega
      · obtain rfl : n = i := by omega
        have dl0 : decide ((n : Int) < (n : Int)) = false := by simp
        have HF : Hid (Fit [92, 86] l) := .inr ⟨rfl, by have := HNo.out; rw [List.take_of_length_le (by rw [HS.out.2]; omega)] at this; exact this⟩
        obtain ⟨Z, hZ⟩ : ∃ Z : ByteArray, (⟨([92, 86] ++ l).toArray⟩ : ByteArray) = Z := ⟨_, rfl⟩
        have hcat : ∀ W, (Op.stringOp .add ⟨[92, 86].toArray⟩ S).run Tryz.prog W = .ok (.string Z) W := fun W => by
          rw [← hZ, ← HS.out.1]
          exact catS rfl (by have := HS.out.2; rw [List.length_append]; simp; omega) W
        have HPa := HG.out.2 [92, 86] HF.out
        rw [hZ] at HPa
        have HP : Hid _ := HPa
        clear HPa hZ
        go_wp2_with fail
        refine Calls.mono (HP.out _ HW2.out) ?_
        rintro e w3 ⟨va, N, vc, R, rfl, q, hpr⟩
        have H3 : Hid (Kp w w3 ∧ ∀ y, Kp w3 y → Calls Tryz.prog 9 #[.agg #[.slice va N vc, .int .i64 R, .int .i64 0, .int .u8 0]] y fun e w'' => e = .returned (.string ⟨([48, 97, 58] ++ wantT l).toArray⟩) ∧ Kp y w'') := ⟨kp_trans HW2.out q, hpr⟩
        clear q hpr hcat
        go_wp2_with fail
        go_loopw [10, 11] (fun v10 v11 wr => ∃ j : Nat, j ≤ n ∧ v11 = .int .i64 j ∧ v10 = .string ⟨((l.take j).flatMap hexL).toArray⟩ ∧ Kp w3 wr ∧ wr.cell? ⟨w3.heap.size, 0, none⟩ = some (.slice va N vc) ∧ wr.cell? ⟨w3.heap.size, 1, none⟩ = some (.int .i64 R) ∧ wr.cell? ⟨w3.heap.size, 2, none⟩ = some (.int .i64 0) ∧ wr.cell? ⟨w3.heap.size, 3, none⟩ = some (.int .u8 0)) (fun _ v11 _ => n - (intOf v11).toNat)
        case atStart => exact ⟨0, Nat.zero_le _, rfl, rfl, kp_alloc _ _, cell_at (alloc_new w3 _) 0, cell_at (alloc_new w3 _) 1, cell_at (alloc_new w3 _) 2, cell_at (alloc_new w3 _) 3⟩
        case round =>
          obtain ⟨j, hj, rfl, rfl, hK, y0, y1, y2, y3⟩ := hrel
          have HK : Hid (Kp w3 wr) := hK
          clear hK
          by_cases hlt : j < n
          · have dl : decide ((j : Int) < (n : Int)) = true := decide_eq_true (by omega)
            have hil : j < S.size := by rw [hsz]; exact hlt
            obtain ⟨c, hc⟩ : ∃ c, S[j]'hil = c := ⟨_, rfl⟩
            obtain ⟨x, hx⟩ : ∃ x, (l.take j).flatMap hexL = x := ⟨_, rfl⟩
            rw [hx]
            obtain ⟨A, hA⟩ : ∃ A, c.toNat / 16 = A := ⟨_, rfl⟩
            obtain ⟨B, hB⟩ : ∃ B, c.toNat % 16 = B := ⟨_, rfl⟩
            have hc256 : c.toNat < 256 := c.toNat_lt
            have hA1 : (c.toNat : Int) / 16 = (A : Int) := by omega
            have hB1 : (c.toNat : Int) % 16 = (B : Int) := by omega
            have sl1 := hx_slice A (by omega)
            have sl2 := hx_slice B (by omega)
            have hxl : x.length ≤ 300 := by rw [← hx, hexL_len, List.length_take]; omega
            obtain ⟨x1, hx1⟩ : ∃ x1, x ++ [98] = x1 := ⟨_, rfl⟩
            obtain ⟨h1, hh1⟩ : ∃ h1, hxs.getD A 0 = h1 := ⟨_, rfl⟩
            obtain ⟨h2, hh2⟩ : ∃ h2, hxs.getD B 0 = h2 := ⟨_, rfl⟩
            rw [hh1] at sl1
            rw [hh2] at sl2
            obtain ⟨x2, hx2⟩ : ∃ x2, x1 ++ [h1] = x2 := ⟨_, rfl⟩
            obtain ⟨x3, hx3⟩ : ∃ x3, x2 ++ [h2] = x3 := ⟨_, rfl⟩
            have ct1 := catS hx1 (by rw [← hx1, List.length_append, List.length_singleton]; omega)
            have ct2 := catS hx2 (by rw [← hx2, ← hx1]; simp only [List.length_append, List.length_singleton]; omega)
            have ct3 := catS hx3 (by rw [← hx3, ← hx2, ← hx1]; simp only [List.length_append, List.length_singleton]; omega)
            have HX : Hid (x3 = (l.take (j + 1)).flatMap hexL) := by
              show x3 = _
              have hjl : j < l.length := by rw [HS.out.2]; exact hlt
              have hcl : l[j] = c := by rw [← hc]; simp only [← HS.out.1]; rfl
              rw [List.take_succ_eq_append_getElem hjl, List.flatMap_append, hx, hcl, ← hx3, ← hx2, ← hx1, ← hh1, ← hh2, ← hA, ← hB]
              simp [hexL]
            clear hx hh1 hh2 hx1 hx2 hx3 hA hB hxl
            go_wp2_with fail
            go_quiet (fail)
            go_wp2_with fail
            go_roundw
            case rel => exact ⟨j + 1, by omega, by go_num, by rw [HX.out], kp_trans HK.out (kp_drewN _ _), kpc (kp_drewN _ _) y0, kpc (kp_drewN _ _) y1, kpc (kp_drewN _ _) y2, kpc (kp_drewN _ _) y3⟩
            case measure => simp [intOf]; omega
          · obtain rfl : j = n := by omega
            have dl : decide ((j : Int) < (j : Int)) = false := by simp
            rw [List.take_of_length_le (by rw [HS.out.2]; omega)]
            obtain ⟨fl, hfl⟩ : ∃ fl, l.flatMap hexL = fl := ⟨_, rfl⟩
            have hll : fl.length ≤ 300 := by rw [← hfl, hexL_len, HS.out.2]; omega
            rw [hfl]
            obtain ⟨P, hP⟩ : ∃ P, wantT l = P := ⟨_, rfl⟩
            have hPr := H3.out.2
            rw [hP] at hPr
            obtain ⟨X, hX⟩ : ∃ X, [48, 97, 58] ++ P = X := ⟨_, rfl⟩
            rw [hX] at hPr
            have HPr : Hid (∀ y, Kp w3 y → Calls Tryz.prog 9 #[.agg #[.slice va N vc, .int .i64 R, .int .i64 0, .int .u8 0]] y fun e w'' => e = .returned (.string ⟨X.toArray⟩) ∧ Kp y w'') := hPr
            have HW : Hid (Kp w wr) := kp_trans H3.out.1 HK.out
            unfold wantT at hP
            rw [HS.out.2, hfl] at hP
            clear hPr
            rcases (by omega : j = 0 ∨ j = 1 ∨ 1 < j) with rfl | rfl | h2
            · rw [if_pos rfl] at hP
              have ct0 := catS (show [48, 97, 58] ++ [101] = X from by rw [← hX, ← hP]) (by rw [← hX, ← hP]; simp)
              clear hP hX hfl
              go_wp2_with fail
              refine Calls.mono (HPr.out _ HK.out) ?_
              rintro e w4 ⟨rfl, q⟩
              have H4 : Hid (Kp w w4) := kp_trans HW.out q
              clear q
              go_wp2_with fail
              go_ret
              exact ⟨by simp, H4.out⟩
            · rw [if_neg (by omega), if_pos rfl] at hP
              have ct0 := catS (show [48, 97, 58] ++ fl = X from by rw [← hX, ← hP]) (by rw [← hX, ← hP]; simp; omega)
              clear hP hX hfl
              go_wp2_with fail
              refine Calls.mono (HPr.out _ HK.out) ?_
              rintro e w4 ⟨rfl, q⟩
              have H4 : Hid (Kp w w4) := kp_trans HW.out q
              clear q
              go_wp2_with fail
              go_ret
              exact ⟨by simp, H4.out⟩
            · rw [if_neg (by omega), if_neg (by omega)] at hP
              have d2 : decide ((1 : Int) < (j : Int)) = true := decide_eq_true (by omega)
              have d3 : ((j : Int) == 0) = false := by simp; omega
              obtain ⟨f1, hf1⟩ : ∃ f1, [40] ++ fl = f1 := ⟨_, rfl⟩
              rw [hf1] at hP
              have ct1 := catS hf1 (by rw [← hf1]; simp; omega)
              have ct2 := catS hP (by rw [← hP, ← hf1]; simp; omega)
              have ct0 := catS hX (by rw [← hX, ← hP, ← hf1]; simp; omega)
              clear hP hX hfl hf1 hll
              go_wp2_with fail
              refine Calls.mono (HPr.out _ HK.out) ?_
              rintro e w4 ⟨rfl, q⟩
              have H4 : Hid (Kp w w4) := kp_trans HW.out q
              clear q
              go_wp2_with fail
              go_ret
              exact ⟨by simp, H4.out⟩
end
end Go.Proofs.YthloemacfdgjjabGreatDoor
/- PatPlain: the walk, with what known, Parse and Print come to. -/
namespace Go.Proofs.YthloemacfdgjjabGreatDoor
open Go.ChangeShapes Go.WideShapes Go.ChangeAt Go.RowKit
set_option linter.unusedVariables false
set_option linter.unusedSimpArgs false
section
variable {w w1 : World}
theorem lf_hex (b : UInt8) : lf b = hexL b := by
  have h : ∀ n : Fin 256, leafT (Nd.q { op := 2, c := n.val }) = [98, hxs.getD (n.val / 16) 0, hxs.getD (n.val % 16) 0] := by decide +kernel
  exact h ⟨b.toNat, b.toNat_lt⟩
theorem plain_text (l : List UInt8) : plainT l = [48, 97, 58] ++ wantT l := by
  have e : lf = hexL := funext lf_hex
  unfold plainT wantT
  rw [head_len, e]
theorem plain_amo : ∀ n : Fin 256, pB n.val = true → n.val ≠ 92 ∧ amo n.val mdM = false ∧ amo n.val mdV = false ∧ amo n.val mdN = false ∧ amo n.val mdO = false := by decide +kernel
theorem none_amo : ∀ n : Fin 256, amo n.val mdO = false := by decide +kernel
theorem fit_md {m l : List UInt8} (h : Fit m l) : ∃ md, Md m md ∧ ∀ b ∈ l, b ≠ 92 ∧ amo b.toNat md = false := by
  rcases h with ⟨hm, hp⟩ | ⟨rfl, hn⟩
  · have hb : ∀ b ∈ l, b ≠ 92 ∧ amo b.toNat mdM = false ∧ amo b.toNat mdV = false ∧ amo b.toNat mdN = false ∧ amo b.toNat mdO = false := fun b hb => by
      obtain ⟨q, z⟩ := plain_amo ⟨b.toNat, b.toNat_lt⟩ (List.all_eq_true.1 hp b hb)
      exact ⟨fun e => q (by subst e; rfl), z⟩
    simp only [words, List.mem_cons, List.not_mem_nil, or_false] at hm
    rcases hm with rfl | rfl | rfl | rfl | rfl
    · exact ⟨mdV, .inr (.inl ⟨rfl, rfl⟩), fun b h => ⟨(hb b h).1, (hb b h).2.2.1⟩⟩
    · exact ⟨mdM, .inr (.inr (.inl ⟨rfl, rfl⟩)), fun b h => ⟨(hb b h).1, (hb b h).2.1⟩⟩
    · exact ⟨mdN, .inr (.inr (.inr (.inl ⟨rfl, rfl⟩))), fun b h => ⟨(hb b h).1, (hb b h).2.2.2.1⟩⟩
    · exact ⟨mdO, .inr (.inr (.inr (.inr ⟨rfl, rfl⟩))), fun b h => ⟨(hb b h).1, (hb b h).2.2.2.2⟩⟩
    · exact ⟨mdM, .inl ⟨rfl, rfl⟩, fun b h => ⟨(hb b h).1, (hb b h).2.1⟩⟩
  · exact ⟨mdO, .inr (.inr (.inr (.inr ⟨rfl, rfl⟩))), fun b hb => ⟨hn b hb, none_amo ⟨b.toNat, b.toNat_lt⟩⟩⟩
theorem nok_of (op c : Nat) (ks : List Nat) (hc : c < 256) : Nok (Nd.q { op := op, c := c, kids := ks }) :=
  ⟨hc, ok_zero, by show Sm 0; unfold Sm; omega, by show Sm 0; unfold Sm; omega, by show Sm 0; unfold Sm; omega⟩
theorem til_nok (l : List UInt8) : ∀ d ∈ (tilN l).map Nd.q, Nok d := by
  intro d hd
  have hb : ∀ d ∈ (bytesN l).map Nd.q, Nok d := by
    intro d hd
    simp only [bytesN, List.map_map, List.mem_map, Function.comp] at hd
    obtain ⟨b, _, rfl⟩ := hd
    exact nok_of 2 _ [] b.toNat_lt
  unfold tilN at hd
  split at hd
  · simp only [List.map_cons, List.map_nil, List.mem_singleton] at hd; subst hd; exact nok_of 1 0 [] (by omega)
  · split at hd
    · exact hb d hd
    · rw [List.map_append, List.mem_append] at hd
      rcases hd with hd | hd
      · exact hb d hd
      · simp only [List.map_cons, List.map_nil, List.mem_singleton] at hd
        subst hd
        exact nok_of 5 0 _ (by omega)
theorem plain_law (s : ByteArray) (m : Nat) (hm : m < 256) (g : Gl w) : Calls Tryz.prog 4 #[.string s, .int .u8 m] w fun e w' => e = .returned (.bool true) ∧ Kp w w' := by
  obtain ⟨l, rfl⟩ : ∃ l : List UInt8, s = ⟨l.toArray⟩ := ⟨s.data.toList, by cases s; simp⟩
  have hk : ∀ x, Kp w x → Calls Tryz.prog 6 #[] x fun e w' => e = .returned (.bool true) ∧ Kp x w' := fun x k => known_any (g.kp k)
  refine plain_walk l m hm ⟨hk, fun hl => ⟨hk, fun mw hf x k => ?_⟩⟩
  obtain ⟨md, h1, h2⟩ := fit_md hf
  refine Calls.mono (parse_ok ⟨(mw ++ l).toArray⟩ ⟨#[]⟩ (g.kp k) (plain_read h1 h2 hl)) ?_
  rintro e w' ⟨va, vc, rfl, q1, q2⟩
  refine ⟨va, (tilN l).length, vc, (tilR l : Int), rfl, q2, fun y ky => ?_⟩
  have hv : Pt y (.slice va (tilN l).length vc) ((tilN l).map Nd.q) := q1.kp ky
  have hlen : (tilN l).length ≤ 101 := by rw [til_len]; split <;> omega
  obtain ⟨n, hX⟩ := pr_plain hl
  rw [← plain_text]
  exact pprint_any (K := 300) hv (fun d hd => Nat.le_trans (til_op l d hd).2 (by omega)) (by rw [List.length_map]; omega) (by rw [List.length_map]; omega) ((g.kp k).kp (kp_trans q2 ky)) (by unfold Sm; omega) (til_nok l) (til_sound (by omega)) hX (by rw [plain_text]; simp)
end
end Go.Proofs.YthloemacfdgjjabGreatDoor
