/- Texts that the proof of the law stands on: Prn3, Prn4, Kn0, Kn1, Gm0, Inp0, Inr1, Inr2, Inr3, Inr4, Inr5, Inr6, Inrx. -/
import Derived.Test.YtmghdogoeehodaaGreatDoorPartG
import Derived.Test.YtmghdogoeehodaaGreatDoorPartF
/- The printer's print. -/
namespace Go.Proofs.YtmghdogoeehodaaGreatDoor
open Go.ChangeShapes Go.WideShapes Go.ChangeAt Go.RowKit
set_option linter.unusedVariables false
set_option linter.unusedSimpArgs false
def okP (L : List Nq) (a : Int) (k : Nat) : Bool := hasB L a && (!(inner (nodeAt L a).op) || !(nodeAt L a).kids.isEmpty) && decide (k + (nodeAt L a).kids.length ≤ 900000)
/-- What is written, of all that waits. -/
def prF (L : List Nq) : Nat → List Part → List UInt8 → Option (List UInt8)
  | 0, _, _ => none
  | n + 1, ps, l =>
    match ps.getLast? with
    | none => some l
    | some (t, a) =>
      if 800000 < l.length + t.length ∨ 800000 < ps.length then none
      else if a = -1 then prF L n ps.dropLast (l ++ t)
      else if okP L a ps.dropLast.length then prF L n (ps.dropLast ++ pushP (nodeAt L a)) (l ++ t ++ sayP (nodeAt L a))
      else none
theorem exists_least {p : Nat → Prop} (h : ∃ n, p n) : ∃ m, p m ∧ ∀ k, p k → m ≤ k := by
  obtain ⟨n, hn⟩ := h
  induction n using Nat.strongRecOn with
  | ind n ih =>
    by_cases q : ∃ k, k < n ∧ p k
    · obtain ⟨k, h1, h2⟩ := q; exact ih k h1 h2
    · exact ⟨n, hn, fun k hk => by
        rcases Nat.lt_or_ge k n with z | z
        · exact absurd ⟨k, z, hk⟩ q
        · exact z⟩
open Classical in
noncomputable def least (p : Nat → Prop) : Nat := if h : ∃ n, p n then Classical.choose (exists_least h) else 0
theorem least_le {p : Nat → Prop} {n : Nat} (h : p n) : least p ≤ n := by
  unfold least
  rw [dif_pos ⟨n, h⟩]
  exact (Classical.choose_spec (exists_least ⟨n, h⟩)).2 n h
theorem least_has {p : Nat → Prop} {n : Nat} (h : p n) : p (least p) := by
  unfold least
  rw [dif_pos ⟨n, h⟩]
  exact (Classical.choose_spec (exists_least ⟨n, h⟩)).1
theorem parts_pop {B : Nat} {v : Value} {ps : List Part} {x : Part} {w : World} (h : w.ownsRow B 71 2 v (ps ++ [x]).length (flatP (ps ++ [x]))) : ∃ g cap, v = .slice (some ⟨g, 0, none⟩) (ps.length + 1) cap ∧ ps.length + 1 ≤ cap ∧ cap ≤ maxLen ∧ B ≤ g ∧ w.cell? ⟨g, ps.length * 2, none⟩ = some (str x.1) ∧ w.cell? ⟨g, ps.length * 2 + 1, none⟩ = some (.int .i64 x.2) ∧ w.ownsRow B 71 2 (.slice (some ⟨g, 0, none⟩) ps.length cap) ps.length (flatP ps) := by
  have hl : (ps ++ [x]).length = ps.length + 1 := by simp
  have hfl := flatP_len ps
  rw [hl, flatP_snoc] at h
  rcases h.2 with ⟨_, q⟩ | ⟨g, c, cur, e, hb, hg, h1, h2, h3, h4⟩
  · omega
  · have hget : ∀ j, j < 2 → w.cell? ⟨g, ps.length * 2 + j, none⟩ = x.cells[j]? := fun j hj => by
      rw [cell_at hg, ← Array.getElem?_toList]
      have : (flatP ps ++ x.cells)[ps.length * 2 + j]? = x.cells[j]? := by
        rw [List.getElem?_append_right (by omega), hfl, Nat.add_sub_cancel_left]
      rw [← h4, List.getElem?_take, if_pos (by omega)] at this
      exact this
    refine ⟨g, c, e, h1, h2, hb, hget 0 (by omega), hget 1 (by omega), hfl, .inr ⟨g, c, cur, rfl, hb, hg, by omega, h2, h3, ?_⟩⟩
    have : (cur.toList.take ((ps.length + 1) * 2)).take (ps.length * 2) = (flatP ps ++ x.cells).take (ps.length * 2) := by rw [h4]
    rw [List.take_take, Nat.min_eq_left (by omega), List.take_append_of_le_length (by omega)] at this
    rw [this]
    exact List.take_of_length_le (by omega)
section
variable {w0 w w1 : World} {pb : Nat} {v kv : Value} {root G : Int} {cs : Nat} {l : List UInt8} {ps : List Part} {L : List Nq}
def Sp (pb g k cap : Nat) (t : List UInt8) (a : Int) (w : World) : Prop := w.cell? ⟨pb, 6, none⟩ = some (.slice (some ⟨g, 0, none⟩) (k + 1) cap) ∧ w.cell? ⟨g, k * 2, none⟩ = some (str t) ∧ w.cell? ⟨g, k * 2 + 1, none⟩ = some (.int .i64 a)
def Pc (pb : Nat) (root G : Int) (cs : Nat) (w : World) : Prop := w.cell? ⟨pb, 1, none⟩ = some (.int .i64 root) ∧ w.cell? ⟨pb, 2, none⟩ = some (.int .i64 G) ∧ w.cell? ⟨pb, 3, none⟩ = some (.int .u8 cs)
theorem Pws.pc (h : Pws w0 pb v root G cs l ps w) : Pc pb root G cs w := by
  obtain ⟨p, bv, wv, h⟩ := h
  obtain ⟨_, c1, c2, c3, _⟩ := h.pr.cells
  exact ⟨c1, c2, c3⟩
def headT (G : Int) (cs : Nat) : List UInt8 := Lib.itoa G ++ caseL cs ++ [58]
set_option maxHeartbeats 4000000 in
set_option maxRecDepth 100000 in
theorem print_any (h : Pws w0 pb v root G cs [] [] w) (hv : Pt w0 v L) (g : Gl w0) (hG : Sm G) (hL : ∀ d ∈ L, Nok d) {X : List UInt8} {n : Nat} (hX : prF L n [(headT G cs, root)] [] = some X) (hne : X ≠ []) :
    Calls Tryz.prog 12 #[.pointer (some ⟨pb, 0, none⟩)] w fun e w' => e = .returned (str X) ∧ Kp w0 w' := by
  have hkp : Kp w0 w := by obtain ⟨_, _, _, z⟩ := h; exact z.kp
  have HQ : Hid (Pt w0 v L ∧ Gl w0 ∧ Sm G ∧ (∀ d ∈ L, Nok d) ∧ prF L n [(headT G cs, root)] [] = some X ∧ X ≠ [] ∧ Kp w0 w) := ⟨hv, g, hG, hL, hX, hne, hkp⟩
  have HP : Hid (Pws w0 pb v root G cs [] [] w) := h
  obtain ⟨a1, ha1⟩ : ∃ a, Lib.itoa G ++ caseL cs = a := ⟨_, rfl⟩
  obtain ⟨a2, ha2⟩ : ∃ a, a1 ++ [58] = a := ⟨_, rfl⟩
  have e1 : a1.length ≤ 22 := by
    have := itoa_len hG
    rw [← ha1, List.length_append]
    have : (caseL cs).length = 1 := by unfold caseL; repeat' split
                                       all_goals rfl
    omega
  have hA1 := cat_run ha1 (by omega)
  have hA2 := cat_run ha2 (by rw [← ha2, List.length_append]; simp; omega)
  have HH : Hid (headT G cs = a2) := by unfold headT; rw [ha1, ha2]; rfl
  have HD : Hid (Pws w0 pb v root G cs [] [] w.drew ∧ Gl w.drew ∧ Kp w0 w.drew) := ⟨h.kp (kp_drew _), g.kp (kp_trans hkp (kp_drew _)), kp_trans hkp (kp_drew _)⟩
  have rl1 : ∀ w', Pc pb root G cs w' → w'.cell? ⟨pb, 1, none⟩ = some (.int .i64 root) := fun _ h => h.1
  have rl2 : ∀ w', Pc pb root G cs w' → w'.cell? ⟨pb, 2, none⟩ = some (.int .i64 G) := fun _ h => h.2.1
  have rl3 : ∀ w', Pc pb root G cs w' → w'.cell? ⟨pb, 3, none⟩ = some (.int .u8 cs) := fun _ h => h.2.2
  clear h hv g hG hL hX hne hkp ha1 ha2 e1
  go_enter Tryz.func12, Tryz.ntmps12
  go_wp2_with fail
  refine wp_region_noPanic ?_
  refine wp_region_held_drew (S := Pc pb root G cs) (by kernel_rfl) (HD.out.1.pc) (fun hHeld => ?_)
  refine takeAt 0 (some 4) ?_ rfl rfl (by kernel_rfl) (by kernel_rfl) (by kernel_rfl) (fun _ _ _ h => h) (Or.inl ⟨by rfl, ?_⟩) hHeld ?_
  rotate_left
  · intro w hSw
    go_simp <;> with_reducible rfl
  try simp only [Act.put, List.setIfInBounds_toArray, List.set_cons_zero, List.set_cons_succ]
  refine takeAt 1 (some 5) ?_ rfl rfl (by kernel_rfl) (by kernel_rfl) (by kernel_rfl) (fun _ _ _ h => h) (Or.inl ⟨by rfl, ?_⟩) hHeld ?_
  rotate_left
  · intro w hSw
    go_simp <;> with_reducible rfl
  try simp only [Act.put, List.setIfInBounds_toArray, List.set_cons_zero, List.set_cons_succ]
  refine takeAt 2 (some 6) ?_ rfl rfl (by kernel_rfl) (by kernel_rfl) (by kernel_rfl) (fun _ _ _ h => h) (Or.inl ⟨by rfl, ?_⟩) hHeld ?_
  rotate_left
  · intro w hSw
    go_simp <;> with_reducible rfl
  try simp only [Act.put, List.setIfInBounds_toArray, List.set_cons_zero, List.set_cons_succ]
  refine takeAt 3 (some 7) ?_ rfl rfl (by kernel_rfl) (by kernel_rfl) (by kernel_rfl) (fun _ _ _ h => h) (Or.inl ⟨by rfl, ?_⟩) hHeld ?_
  rotate_left
  · intro w hSw
    go_simp <;> with_reducible rfl
  try simp only [Act.put, List.setIfInBounds_toArray, List.set_cons_zero, List.set_cons_succ]
  refine takeAt 4 (some 8) ?_ rfl rfl (by kernel_rfl) (by kernel_rfl) (by kernel_rfl) (fun _ _ _ h => h) (Or.inl ⟨by rfl, ?_⟩) hHeld ?_
  rotate_left
  · intro w hSw
    go_simp <;> with_reducible rfl
  try simp only [Act.put, List.setIfInBounds_toArray, List.set_cons_zero, List.set_cons_succ]
  refine takeAt 5 (some 9) ?_ rfl rfl (by kernel_rfl) (by kernel_rfl) (by kernel_rfl) (fun _ _ _ h => h) (Or.inl ⟨by rfl, ?_⟩) hHeld ?_
  rotate_left
  · intro w hSw
    go_simp <;> with_reducible rfl
  try simp only [Act.put, List.setIfInBounds_toArray, List.set_cons_zero, List.set_cons_succ]
  refine takeAt 7 (some 11) ?_ rfl rfl (by kernel_rfl) (by kernel_rfl) (by kernel_rfl) (fun _ _ _ h => h) (Or.inl ⟨by rfl, ?_⟩) hHeld ?_
  rotate_left
  · intro w hSw
    go_simp <;> with_reducible rfl
  try simp only [Act.put, List.setIfInBounds_toArray, List.set_cons_zero, List.set_cons_succ]
  refine takeAt 8 (some 12) ?_ rfl rfl (by kernel_rfl) (by kernel_rfl) (by kernel_rfl) (fun _ _ _ h => h) (Or.inl ⟨by rfl, ?_⟩) hHeld ?_
  rotate_left
  · intro w hSw
    go_simp <;> with_reducible rfl
  try simp only [Act.put, List.setIfInBounds_toArray, List.set_cons_zero, List.set_cons_succ]
  refine takeAt 9 (some 13) ?_ rfl rfl (by kernel_rfl) (by kernel_rfl) (by kernel_rfl) (fun _ _ _ h => h) (Or.inl ⟨by rfl, ?_⟩) hHeld ?_
  rotate_left
  · intro w hSw
    go_simp <;> with_reducible rfl
  try simp only [Act.put, List.setIfInBounds_toArray, List.set_cons_zero, List.set_cons_succ]
  refine takeAt 10 (some 14) ?_ rfl rfl (by kernel_rfl) (by kernel_rfl) (by kernel_rfl) (fun _ _ _ h => h) (Or.inl ⟨by rfl, ?_⟩) hHeld ?_
  rotate_left
  · intro w hSw
    go_simp <;> with_reducible rfl
  try simp only [Act.put, List.setIfInBounds_toArray, List.set_cons_zero, List.set_cons_succ]
  refine takeAt 11 (some 15) ?_ rfl rfl (by kernel_rfl) (by kernel_rfl) (by kernel_rfl) (fun _ _ _ h => h) (Or.inl ⟨by rfl, ?_⟩) hHeld ?_
  rotate_left
  · intro w hSw
    go_simp <;> with_reducible rfl
  try simp only [Act.put, List.setIfInBounds_toArray, List.set_cons_zero, List.set_cons_succ]
  refine takeAt 15 (some 19) ?_ rfl rfl (by kernel_rfl) (by kernel_rfl) (by kernel_rfl) (fun _ _ _ h => h) (Or.inl ⟨by rfl, ?_⟩) hHeld ?_
  rotate_left
  · intro w hSw
    go_simp <;> with_reducible rfl
  try simp only [Act.put, List.setIfInBounds_toArray, List.set_cons_zero, List.set_cons_succ]
  refine takeAt 16 (some 20) ?_ rfl rfl (by kernel_rfl) (by kernel_rfl) (by kernel_rfl) (fun _ _ _ h => h) (Or.inl ⟨by rfl, ?_⟩) hHeld ?_
  rotate_left
  · intro w hSw
    go_simp <;> with_reducible rfl
  try simp only [Act.put, List.setIfInBounds_toArray, List.set_cons_zero, List.set_cons_succ]
  refine takeAt 17 (some 21) ?_ rfl rfl (by kernel_rfl) (by kernel_rfl) (by kernel_rfl) (fun _ _ _ h => h) (Or.inl ⟨by rfl, ?_⟩) hHeld ?_
  rotate_left
  · intro w hSw
    go_simp <;> with_reducible rfl
  try simp only [Act.put, List.setIfInBounds_toArray, List.set_cons_zero, List.set_cons_succ]
  refine takeAt 18 (some 22) ?_ rfl rfl (by kernel_rfl) (by kernel_rfl) (by kernel_rfl) (fun _ _ _ h => h) (Or.inl ⟨by rfl, ?_⟩) hHeld ?_
  rotate_left
  · intro w hSw
    go_simp <;> with_reducible rfl
  try simp only [Act.put, List.setIfInBounds_toArray, List.set_cons_zero, List.set_cons_succ]
  refine takeAt 19 (some 23) ?_ rfl rfl (by kernel_rfl) (by kernel_rfl) (by kernel_rfl) (fun _ _ _ h => h) (Or.inl ⟨by rfl, ?_⟩) hHeld ?_
  rotate_left
  · intro w hSw
    go_simp <;> with_reducible rfl
  try simp only [Act.put, List.setIfInBounds_toArray, List.set_cons_zero, List.set_cons_succ]
  refine callAt 6 10 18 (vals := #[.int .i64 G]) (by kernel_rfl) rfl rfl rfl rfl (by simp [Act.eval]) Tryz.func18 (by kernel_rfl) (by kernel_rfl) ?_
  refine Calls.mono (itoa_any G HQ.out.2.2.1.1 HQ.out.2.2.1.2 HD.out.2.1) ?_
  rintro e w2 ⟨rfl, q⟩
  have H2 : Hid (Pws w0 pb v root G cs [] [] w2) := HD.out.1.kp q
  clear q
  refine ⟨_, rfl, H2.out.pc, fun hHeld => ?_⟩
  try simp only [Act.put, List.setIfInBounds_toArray, List.set_cons_zero, List.set_cons_succ]
  refine callAt 12 16 19 (vals := #[.int .u8 cs]) (by kernel_rfl) rfl rfl rfl rfl (by simp [Act.eval]) Tryz.func19 (by kernel_rfl) (by kernel_rfl) ?_
  refine Calls.mono (caseLetter_any cs) ?_
  rintro e w3 ⟨rfl, rfl⟩
  refine ⟨_, rfl, H2.out.pc, fun hHeld => ?_⟩
  try simp only [Act.put, List.setIfInBounds_toArray, List.set_cons_zero, List.set_cons_succ]
  refine takeAt 13 (some 17) ?_ rfl rfl (by kernel_rfl) (by kernel_rfl) (by kernel_rfl) (fun _ _ _ h => h) (Or.inl ⟨by rfl, ?_⟩) hHeld ?_
  rotate_left
  · intro w hSw
    go_simp <;> with_reducible rfl
  try simp only [Act.put, List.setIfInBounds_toArray, List.set_cons_zero, List.set_cons_succ]
  refine takeAt 14 (some 18) ?_ rfl rfl (by kernel_rfl) (by kernel_rfl) (by kernel_rfl) (fun _ _ _ h => h) (Or.inl ⟨by rfl, ?_⟩) hHeld ?_
  rotate_left
  · intro w hSw
    go_simp <;> with_reducible rfl
  try simp only [Act.put, List.setIfInBounds_toArray, List.set_cons_zero, List.set_cons_succ]
  refine callAt 20 24 17 (vals := #[.pointer (some ⟨pb, 0, none⟩), str a2, .int .i64 root]) (by kernel_rfl) rfl rfl rfl rfl (by simp [Act.eval]) Tryz.func17 (by kernel_rfl) (by kernel_rfl) ?_
  refine Calls.mono (wait_any H2.out a2 root (by simp)) ?_
  rintro e w4 ⟨rfl, q, _⟩
  have H4 : Hid (Pws w0 pb v root G cs [] [(a2, root)] w4) := q
  clear q
  refine ⟨_, rfl, H4.out.pc, fun hHeld => ?_⟩
  try simp only [Act.put, List.setIfInBounds_toArray, List.set_cons_zero, List.set_cons_succ]
  refine wpAnyH_done (by kernel_rfl) ?_ _
  refine NoPanic.normal ?_
  have hX2 := HQ.out.2.2.2.2.1
  rw [HH.out] at hX2
  have HX : Hid (prF L n [(a2, root)] [] = some X) := hX2
  clear hX2 hHeld
  go_wp2_with fail
  go_loopw [3] (fun v3 wr => ∃ (f : Nat) (l : List UInt8) (ps : List Part), prF L f ps l = some X ∧ Pws w0 pb v root G cs l ps wr) (fun _ wr => least fun f => ∃ (l : List UInt8) (ps : List Part), prF L f ps l = some X ∧ Pws w0 pb v root G cs l ps wr)
  case atStart => exact ⟨n, [], [(a2, root)], HX.out, H4.out⟩
  case round =>
    obtain ⟨f0, l0, ps0, hF0, hP0⟩ := hrel
    obtain ⟨m, hm⟩ : ∃ m, (least fun f => ∃ (l : List UInt8) (ps : List Part), prF L f ps l = some X ∧ Pws w0 pb v root G cs l ps wr) = m := ⟨_, rfl⟩
    obtain ⟨l, ps, hF, hP⟩ := least_has (p := fun f => ∃ (l : List UInt8) (ps : List Part), prF L f ps l = some X ∧ Pws w0 pb v root G cs l ps wr) ⟨l0, ps0, hF0, hP0⟩
    rw [hm] at hF
    have HM : Hid ((least fun f => ∃ (l : List UInt8) (ps : List Part), prF L f ps l = some X ∧ Pws w0 pb v root G cs l ps wr) = m) := hm
    clear hF0 hP0 hm
    obtain ⟨p, bv, wv, hW⟩ := hP
    cases m with
    | zero => simp [prF] at hF
    | succ m =>
    obtain ⟨_, _, _, _, _, _, c6⟩ := hW.pr.cells
    rcases List.eq_nil_or_concat ps with rfl | ⟨qs, ⟨t, a⟩, rfl⟩
    · have hXl : X = l := by simp [prF] at hF; exact hF.symm
      subst hXl
      obtain ⟨sa, sc, rfl, _, _⟩ := owns_form hW.wt
      have HW : Hid (Pws w0 pb v root G cs X [] wr) := ⟨_, _, _, hW⟩
      clear hW hF HX
      simp only [List.length_nil] at c6 ⊢
      go_wp2_with fail
      refine Calls.mono (bstring_any HW.out HQ.out.2.2.2.2.2.1) ?_
      rintro e w5 ⟨rfl, q⟩
      have HZ : Hid _ := q
      clear q
      go_wp2_with fail
      go_ret
      exact ⟨rfl, HZ.out⟩
    · rw [List.concat_eq_append] at hF hW
      obtain ⟨k, hk⟩ : ∃ k, qs.length = k := ⟨_, rfl⟩
      obtain ⟨g, cap, rfl, k1, k2, k3, kc0, kc1, hpop⟩ := parts_pop hW.wt
      rw [hk] at k1 kc0 kc1 hpop c6
      have hstep : ¬ (800000 < l.length + t.length ∨ 800000 < k + 1) ∧ (if a = -1 then prF L m qs (l ++ t) else if okP L a k then prF L m (qs ++ pushP (nodeAt L a)) (l ++ t ++ sayP (nodeAt L a)) else none) = some X := by
        unfold prF at hF
        simp only [List.getLast?_concat, List.dropLast_concat, List.length_append, List.length_cons, List.length_nil, Nat.zero_add, hk] at hF
        split at hF
        · cases hF
        · rename_i hb
          exact ⟨hb, hF⟩
      have hgne : g ≠ pb := fun z => hW.wne (by simp only [Value.ownBlock]; rw [z])
      have hglt : g < wr.heap.size := (hpop.lt g rfl).2
      have hY : ∀ ob, Pws w0 pb v root G cs l qs ((wr.alloc ob).setCell ⟨pb, 6, none⟩ (.slice (some ⟨g, 0, none⟩) k cap)) := fun ob => by
        have hW := hW.kp' (kp_alloc wr ob)
        have hpop := row_kp hpop (kp_alloc wr ob)
        have hsz := alloc_size wr ob
        have f := fr_set pb 6 (.slice (some ⟨g, 0, none⟩) k cap) (wr.alloc ob)
        refine ⟨p, bv, .slice (some ⟨g, 0, none⟩) k cap, kp_new hW.kp f hW.far, hW.far, hW.pr.set6 _, hW.ptr, row_heap hW.buf fun j hj => ?_, ?_⟩
        · exact f.block j (hW.buf.lt j hj).2 fun z => hW.bne (by unfold On at z; rw [← z]; exact hj)
        · rw [hk]
          refine row_heap hpop fun j hj => ?_
          simp only [Value.ownBlock, Option.some.injEq] at hj
          exact f.block j (by omega) fun z => hgne (by unfold On at z; omega)
      have hplt := hW.pr.lt
      have HW5 : Hid (Pws w0 pb v root G cs l qs ((wr.alloc (.cells #[str t, .int .i64 a] 71)).setCell ⟨pb, 6, none⟩ (.slice (some ⟨g, 0, none⟩) k cap)).drew.drew ∧ ((wr.alloc (.cells #[str t, .int .i64 a] 71)).setCell ⟨pb, 6, none⟩ (.slice (some ⟨g, 0, none⟩) k cap)).drew.drew.heap[wr.heap.size]? = some (.cells #[str t, .int .i64 a] 71 (0, 0))) := by
        refine ⟨(hY _).kp (kp_trans (kp_drew _) (kp_drew _)), ?_⟩
        show ((wr.alloc (.cells #[str t, .int .i64 a] 71)).setCell ⟨pb, 6, none⟩ (.slice (some ⟨g, 0, none⟩) k cap)).heap[wr.heap.size]? = _
        rw [heap_setCell_other (by omega)]
        exact alloc_new wr _
      have HST : Hid (¬ (800000 < l.length + t.length ∨ 800000 < k + 1) ∧ (if a = -1 then prF L m qs (l ++ t) else if okP L a k then prF L m (qs ++ pushP (nodeAt L a)) (l ++ t ++ sayP (nodeAt L a)) else none) = some X ∧ qs.length = k) := ⟨hstep.1, hstep.2, hk⟩
      have c6a : ∀ ob, (wr.alloc ob).cell? ⟨pb, 6, none⟩ = some (.slice (some ⟨g, 0, none⟩) (k + 1) cap) := fun ob => kp_cell (kp_alloc _ _) c6
      have f6a : ∀ ob, (wr.alloc ob).frozen? ⟨pb, 6, none⟩ = false := fun ob => (hW.kp' (kp_alloc wr ob)).pr.fz 6
      have HS0 : Hid (∀ x, Kp wr x → Sp pb g k cap t a x) := fun x q => ⟨kp_cell q c6, kp_cell q kc0, kp_cell q kc1⟩
      have rs6 : ∀ w', Sp pb g k cap t a w' → w'.cell? ⟨pb, 6, none⟩ = some (.slice (some ⟨g, 0, none⟩) (k + 1) cap) := fun _ h => h.1
      have rs0 : ∀ w', Sp pb g k cap t a w' → w'.cell? ⟨g, k * 2, none⟩ = some (str t) := fun _ h => h.2.1
      have rs1 : ∀ w', Sp pb g k cap t a w' → w'.cell? ⟨g, k * 2 + 1, none⟩ = some (.int .i64 a) := fun _ h => h.2.2
      have hk8 : k ≤ 800000 := by have := hstep.1; omega
      have hwk : IntKind.i64.wrap (k : Int) = (k : Int) := by rw [IntKind.wrap_i64]; omega
      have hkk : ((k : Int) < (k : Int) + 1) := by omega
      unfold maxLen at k2
      clear hF hW hY hstep hgne hglt hplt hpop hk kc0 kc1 rl1 rl2 rl3
      go_wp2_with fail
      refine wp_region_noPanic ?_
      refine wp_region_held_drew (S := Sp pb g k cap t a) (by kernel_rfl) (HS0.out _ (kp_drew _)) (fun hHeld => ?_)
      refine takeAt 0 (some 31) ?_ rfl rfl (by kernel_rfl) (by kernel_rfl) (by kernel_rfl) (fun _ _ _ h => h) (Or.inl ⟨by rfl, ?_⟩) hHeld ?_
      rotate_left
      · intro w hSw
        go_simp <;> with_reducible rfl
      try simp only [Act.put, List.setIfInBounds_toArray, List.set_cons_zero, List.set_cons_succ]
      refine takeAt 1 (some 32) ?_ rfl rfl (by kernel_rfl) (by kernel_rfl) (by kernel_rfl) (fun _ _ _ h => h) (Or.inl ⟨by rfl, ?_⟩) hHeld ?_
      rotate_left
      · intro w hSw
        go_simp <;> with_reducible rfl
      try simp only [Act.put, List.setIfInBounds_toArray, List.set_cons_zero, List.set_cons_succ]
      refine takeAt 2 (some 33) ?_ rfl rfl (by kernel_rfl) (by kernel_rfl) (by kernel_rfl) (fun _ _ _ h => h) (Or.inl ⟨by rfl, ?_⟩) hHeld ?_
      rotate_left
      · intro w hSw
        go_simp <;> with_reducible rfl
      try simp only [Act.put, List.setIfInBounds_toArray, List.set_cons_zero, List.set_cons_succ]
      refine takeAt 3 (some 34) ?_ rfl rfl (by kernel_rfl) (by kernel_rfl) (by kernel_rfl) (fun _ _ _ h => h) (Or.inl ⟨by rfl, ?_⟩) hHeld ?_
      rotate_left
      · intro w hSw
        go_simp <;> with_reducible rfl
      try simp only [Act.put, List.setIfInBounds_toArray, List.set_cons_zero, List.set_cons_succ]
      refine takeAt 4 (some 35) ?_ rfl rfl (by kernel_rfl) (by kernel_rfl) (by kernel_rfl) (fun _ _ _ h => h) (Or.inl ⟨by rfl, ?_⟩) hHeld ?_
      rotate_left
      · intro w hSw
        go_simp <;> with_reducible rfl
      try simp only [Act.put, List.setIfInBounds_toArray, List.set_cons_zero, List.set_cons_succ]
      refine takeAt 5 (some 36) ?_ rfl rfl (by kernel_rfl) (by kernel_rfl) (by kernel_rfl) (fun _ _ _ h => h) (Or.inl ⟨by rfl, ?_⟩) hHeld ?_
      rotate_left
      · intro w hSw
        go_simp <;> with_reducible rfl
      try simp only [Act.put, List.setIfInBounds_toArray, List.set_cons_zero, List.set_cons_succ]
      refine takeAt 6 (some 37) ?_ rfl rfl (by kernel_rfl) (by kernel_rfl) (by kernel_rfl) (fun _ _ _ h => h) (Or.inl ⟨by rfl, ?_⟩) hHeld ?_
      rotate_left
      · intro w hSw
        go_simp <;> with_reducible rfl
      try simp only [Act.put, List.setIfInBounds_toArray, List.set_cons_zero, List.set_cons_succ]
      refine takeAt 7 (some 38) ?_ rfl rfl (by kernel_rfl) (by kernel_rfl) (by kernel_rfl) (fun _ _ _ h => h) (Or.inl ⟨by rfl, ?_⟩) hHeld ?_
      rotate_left
      · intro w hSw
        go_simp <;> with_reducible rfl
      try simp only [Act.put, List.setIfInBounds_toArray, List.set_cons_zero, List.set_cons_succ]
      refine takeAt 8 (some 39) ?_ rfl rfl (by kernel_rfl) (by kernel_rfl) (by kernel_rfl) (fun _ _ _ h => h) (Or.inl ⟨by rfl, ?_⟩) hHeld ?_
      rotate_left
      · intro w hSw
        go_simp <;> with_reducible rfl
      try simp only [Act.put, List.setIfInBounds_toArray, List.set_cons_zero, List.set_cons_succ]
      refine takeAt 9 (some 40) ?_ rfl rfl (by kernel_rfl) (by kernel_rfl) (by kernel_rfl) (fun _ _ _ h => h) (Or.inl ⟨by rfl, ?_⟩) hHeld ?_
      rotate_left
      · intro w hSw
        go_simp <;> with_reducible rfl
      try simp only [Act.put, List.setIfInBounds_toArray, List.set_cons_zero, List.set_cons_succ]
      refine takeAt 10 (some 41) ?_ rfl rfl (by kernel_rfl) (by kernel_rfl) (by kernel_rfl) (fun _ _ _ h => h) (Or.inl ⟨by rfl, ?_⟩) hHeld ?_
      rotate_left
      · intro w hSw
        go_simp <;> with_reducible rfl
      try simp only [Act.put, List.setIfInBounds_toArray, List.set_cons_zero, List.set_cons_succ]
      refine takeAt 11 (some 42) ?_ rfl rfl (by kernel_rfl) (by kernel_rfl) (by kernel_rfl) (fun _ _ _ h => h) (Or.inl ⟨by rfl, ?_⟩) hHeld ?_
      rotate_left
      · intro w hSw
        go_simp <;> with_reducible rfl
      try simp only [Act.put, List.setIfInBounds_toArray, List.set_cons_zero, List.set_cons_succ]
      refine wpAnyH_ready (rs := [12]) (by kernel_rfl) (by simp) ?_
      refine AllReadyH.cons rfl (fun K hK => ?_) AllReadyH.nil
      go_simp
      refine hK.out _ _ (HS0.out _ (kp_trans (kp_alloc _ _) (kp_drew _))) (fun hHeld => ?_)
      clear hK K
      try simp only [Act.put, List.setIfInBounds_toArray, List.set_cons_zero, List.set_cons_succ]
      refine wpAnyH_ready (rs := [13]) (by kernel_rfl) (by simp) ?_
      refine AllReadyH.cons rfl (fun K hK => ?_) AllReadyH.nil
      go_simp
      refine hK.out _ _ (HS0.out _ (kp_trans (kp_alloc _ _) (kp_drew _))) (fun hHeld => ?_)
      clear hK K
      try simp only [Act.put, List.setIfInBounds_toArray, List.set_cons_zero, List.set_cons_succ]
      refine wpAnyH_done (by kernel_rfl) ?_ _
      refine NoPanic.normal ?_
      go_wp2_with fail
      go_region
      go_wp2_with fail
      generalize ((wr.alloc (.cells #[str t, .int .i64 a] 71)).setCell ⟨pb, 6, none⟩ (.slice (some ⟨g, 0, none⟩) k cap)).drew.drew = W at HW5 ⊢
      have cb0 : W.cell? ⟨wr.heap.size, 0, none⟩ = some (str t) := by rw [cell_at HW5.out.2]; rfl
      clear c6a f6a c6 rs6 rs0 rs1 hHeld HS0
      have HW6 : Hid (Calls Tryz.prog 20 #[.pointer (some ⟨pb, 4, none⟩), str t] W.drew fun e w' => e = .returned (.tuple #[.int .i64 t.length, .nilIface]) ∧ Pws w0 pb v root G cs (l ++ t) qs w' ∧ w'.heap[wr.heap.size]? = some (.cells #[str t, .int .i64 a] 71 (0, 0))) :=
        (write_any (HW5.out.1.kp (kp_drew W)) t (by have := HST.out.1; omega)).mono fun e w' q => ⟨q.1, q.2.1, q.2.2 _ (by decide) (by decide) _ _ HW5.out.2⟩
      go_region_with (go_at_call 20; refine Calls.mono HW6.out ?_; rintro e w5 ⟨rfl, q5, b5⟩)
      have HP5 : Hid (Pws w0 pb v root G cs (l ++ t) qs w5 ∧ w5.heap[wr.heap.size]? = some (.cells #[str t, .int .i64 a] 71 (0, 0))) := ⟨q5, b5⟩
      have cb1 : w5.cell? ⟨wr.heap.size, 1, none⟩ = some (.int .i64 a) := by rw [cell_at b5]; rfl
      clear q5 b5 cb0 HW6
      by_cases ha : a = -1
      · subst ha
        go_wp2_with fail
        have hs : prF L m qs (l ++ t) = some X := by have := HST.out.2.1; simpa using this
        refine ⟨⟨m, l ++ t, qs, hs, HP5.out.1⟩, ?_⟩
        rw [HM.out]
        exact Nat.lt_succ_of_le (least_le ⟨l ++ t, qs, hs, HP5.out.1⟩)
      · have hda : (a == -1) = false := by simpa using ha
        have hst := HST.out.2.1
        rw [if_neg ha] at hst
        have hok : okP L a k = true := by
          cases hq : okP L a k with
          | true => rfl
          | false => rw [hq] at hst; cases hst
        rw [hok, if_pos rfl] at hst
        have HSt : Hid (prF L m (qs ++ pushP (nodeAt L a)) (l ++ t ++ sayP (nodeAt L a)) = some X) := hst
        clear hst
        unfold okP at hok
        simp only [Bool.and_eq_true, Bool.or_eq_true, Bool.not_eq_true', decide_eq_true_eq] at hok
        obtain ⟨⟨hhas, hinn⟩, hlen⟩ := hok
        obtain ⟨va, vc, rfl, _, vcc, _⟩ := id HQ.out.1
        obtain ⟨na, nb, no, kv, rfl, hna, rfl, hcs, hks⟩ := HQ.out.1.node hhas
        obtain ⟨d, hd⟩ : ∃ d, nodeAt L na = d := ⟨_, rfl⟩
        have hdm : d ∈ L := by
          rw [← hd]; unfold nodeAt
          rw [Int.toNat_natCast, List.getElem?_eq_getElem hna]
          exact List.getElem_mem hna
        rw [hd] at hcs hks hinn hlen
        have HSt2 : Hid (prF L m (qs ++ pushP d) (l ++ t ++ sayP d) = some X) := by have := HSt.out; rw [hd] at this; exact this
        have k5 : Kp w0 w5 := by obtain ⟨_, _, _, z⟩ := HP5.out.1; exact z.kp
        have HN7 : Hid (Calls Tryz.prog 21 #[.pointer (some ⟨pb, 0, none⟩), d.val kv] w5.drew fun e w' => e = .returned (.tuple #[]) ∧ Pws w0 pb (.slice (some ⟨nb, no, none⟩) L.length vc) root G cs (l ++ t ++ sayP d) (qs ++ pushP d) w') :=
          node_any (HP5.out.1.kp (kp_drew w5)) HQ.out.2.1 d (HQ.out.2.2.2.1 d hdm) hks (fun z => by
            rcases hinn with y | y
            · rw [z] at y; cases y
            · intro e; rw [e] at y; cases y) (by rw [HST.out.2.2]; omega) (by rw [List.length_append]; have := HST.out.1; omega)
        unfold Nq.val at HN7
        have n0 : w5.cell? ⟨nb, no + na * 11, none⟩ = some (.int .u8 d.op) := kp_cell k5 (hcs 0 _ rfl)
        have n1 := kp_cell k5 (hcs 1 _ rfl)
        have n2 := kp_cell k5 (hcs 2 _ rfl)
        have n3 := kp_cell k5 (hcs 3 _ rfl)
        have n4 := kp_cell k5 (hcs 4 _ rfl)
        have n5 := kp_cell k5 (hcs 5 _ rfl)
        have n6 := kp_cell k5 (hcs 6 _ rfl)
        have n7 := kp_cell k5 (hcs 7 _ rfl)
        have n8 := kp_cell k5 (hcs 8 _ rfl)
        have n9 := kp_cell k5 (hcs 9 _ rfl)
        have n10 := kp_cell k5 (hcs 10 _ rfl)
        obtain ⟨ka, kc, rfl, _, _, _⟩ := id hks
        have p0 : w5.cell? ⟨pb, 0, none⟩ = some (.slice (some ⟨nb, no, none⟩) L.length vc) := by
          obtain ⟨_, _, _, z⟩ := HP5.out.1
          exact z.pr.cells.1
        unfold maxLen at vcc
        clear hcs hks hinn hlen hhas hdm k5 hd
        go_wp2_with fail
        go_region_with (go_at_call 21; refine Calls.mono HN7.out ?_; rintro e w7 ⟨rfl, q7⟩)
        all_goals
          have HP7 : Hid _ := q7
          clear q7
          go_wp2_with fail
          refine ⟨⟨m, _, _, HSt2.out, HP7.out⟩, ?_⟩
          rw [HM.out]
          exact Nat.lt_succ_of_le (least_le ⟨_, _, HSt2.out, HP7.out⟩)
end
end Go.Proofs.YtmghdogoeehodaaGreatDoor
/- Print. -/
namespace Go.Proofs.YtmghdogoeehodaaGreatDoor
open Go.ChangeShapes Go.WideShapes Go.ChangeAt Go.RowKit
set_option linter.unusedVariables false
set_option linter.unusedSimpArgs false
section
variable {w : World} {v : Value} {root G : Int} {cs : Nat} {L : List Nq}
set_option maxHeartbeats 4000000 in
set_option maxRecDepth 100000 in
theorem pprint_any {K : Nat} (hv : Pt w v L) (hK : ∀ d ∈ L, d.kids.length ≤ K) (hM : K * L.length ≤ 10000000) (hLl : L.length ≤ 10000000) (g : Gl w) (hG : Sm G) (hL : ∀ d ∈ L, Nok d) (hs : soundF L root G = true) {X : List UInt8} {n : Nat} (hX : prF L n [(headT G cs, root)] [] = some X) (hne : X ≠ []) :
    Calls Tryz.prog 7 #[.agg #[v, .int .i64 root, .int .i64 G, .int .u8 cs]] w fun e w' => e = .returned (str X) ∧ Kp w w' := by
  have HS : Hid (∀ x, Kp w x → Calls Tryz.prog 6 #[.agg #[v, .int .i64 root, .int .i64 G, .int .u8 cs]] x fun e w' => e = .returned (.bool true) ∧ Kp x w') := fun x k => by
    have := sound_any (hv.kp k) root G cs hK hM hLl
    rw [hs] at this
    exact this
  have HP : Hid (∀ x pb, Kp w x → w.heap.size ≤ pb → Pr pb v root G cs (.pointer none) (.slice none 0 0) (.slice none 0 0) x → Calls Tryz.prog 12 #[.pointer (some ⟨pb, 0, none⟩)] x fun e w' => e = .returned (str X) ∧ Kp w w') := fun x pb k hb hp =>
    print_any ⟨_, _, _, k, hb, hp, .inl rfl, World.ownsRow_nil _ _ _ _, World.ownsRow_nil _ _ _ _⟩ hv g hG hL hX hne
  obtain ⟨va, vc, rfl, _, _, _⟩ := id hv
  clear hv hK hM hLl g hG hL hs hX hne
  go_enter Tryz.func7, Tryz.ntmps7
  go_wp2_with fail
  refine Calls.mono (HS.out _ (kp_alloc _ _)) ?_
  rintro e w1 ⟨rfl, q⟩
  have k1 : Kp w w1 := kp_trans (kp_alloc _ _) q
  have hb : PBox w.heap.size (.slice va L.length vc) root G cs w1 := (show PBox _ _ _ _ _ (w.alloc _) from alloc_new w _).kp q
  obtain ⟨c0, c1, c2, c3⟩ := hb.cells
  have HK : Hid (Kp w w1) := k1
  clear q k1 hb
  go_wp2_with fail
  refine Calls.mono (HP.out _ _ (kp_trans HK.out (kp_alloc _ _)) HK.out.size (alloc_new w1 _)) ?_
  rintro e w2 ⟨rfl, q⟩
  have HZ : Hid _ := q
  clear q
  go_wp2_with fail
  go_ret
  exact ⟨rfl, HZ.out⟩
end
end Go.Proofs.YtmghdogoeehodaaGreatDoor
/- The chapter's examples, read and written by the models. -/
namespace Go.Proofs.YtmghdogoeehodaaGreatDoor
open Go.ChangeShapes Go.WideShapes Go.ChangeAt Go.RowKit
set_option linter.unusedVariables false
set_option linter.unusedSimpArgs false
set_option maxRecDepth 100000
/-- What is told of a pattern that was read. -/
def see (R : Except (Nat × Nat) (Nat × RS)) : Except (Nat × Nat) (Nat × Nat × Nat × List Nd) :=
  match R with
  | .ok (i, r) => .ok (i, r.g, r.cs, r.nds)
  | .error x => .error x
def L1 : List Nd := [{ op := 2, c := 97 }, { op := 7, mn := 0, mx := -1, kids := [0] }]
def L2 : List Nd := [{ op := 2, c := 97 }, { op := 2, c := 98 }, { op := 8, n := 1, kids := [1] }, { op := 7, mn := 1, mx := -1, kids := [2] }, { op := 6, kids := [0, 3] }]
theorem kn1 : see (parF ⟨#[97, 42]⟩ ⟨#[]⟩) = .ok (1, 0, 0, L1) := by kernel_rfl
theorem kn2 : see (parF ⟨#[92, 118, 97, 124, 40, 98, 41, 43]⟩ ⟨#[]⟩) = .ok (4, 1, 0, L2) := by kernel_rfl
theorem kn3 : see (parF ⟨#[97, 92, 43, 92, 43]⟩ ⟨#[]⟩) = .error (32, 3) := by kernel_rfl
theorem ks1 : soundF (L1.map Nd.q) 1 0 = true := by kernel_rfl
theorem ks2 : soundF (L2.map Nd.q) 4 1 = true := by kernel_rfl
def T1 : List UInt8 := [48, 97, 58, 123, 48, 44, 45, 49, 125, 98, 54, 49]
def T2 : List UInt8 := [49, 97, 58, 40, 98, 54, 49, 124, 123, 49, 44, 45, 49, 125, 60, 49, 98, 54, 50, 62, 41]
theorem kp1 : prF (L1.map Nd.q) 20 [(headT 0 0, 1)] [] = some T1 := by kernel_rfl
theorem kp2 : prF (L2.map Nd.q) 40 [(headT 1 0, 4)] [] = some T2 := by kernel_rfl
end Go.Proofs.YtmghdogoeehodaaGreatDoor
/- The law's known. -/
namespace Go.Proofs.YtmghdogoeehodaaGreatDoor
open Go.ChangeShapes Go.WideShapes Go.ChangeAt Go.RowKit
set_option linter.unusedVariables false
set_option linter.unusedSimpArgs false
section
variable {w w1 : World}
/-- Parse, told by what is seen. -/
theorem parse_ok (s last : ByteArray) (g : Gl w) {i gs cs : Nat} {nds : List Nd} (h : see (parF s last) = .ok (i, gs, cs, nds)) :
    Calls Tryz.prog 5 #[.string s, .string last] w fun e w' => ∃ va vc, e = .returned (.tuple #[.agg #[.slice va nds.length vc, .int .i64 i, .int .i64 gs, .int .u8 cs], .int .u16 0, .int .i64 0]) ∧ Pt w' (.slice va nds.length vc) (nds.map Nd.q) ∧ Kp w w' := by
  obtain ⟨m, hm⟩ := g.max
  have := parse_any s last g.big hm
  cases hR : parF s last with
  | error x => rw [hR] at h; cases h
  | ok x =>
    obtain ⟨j, r⟩ := x
    rw [hR] at h this
    simp only [see, Except.ok.injEq, Prod.mk.injEq] at h
    obtain ⟨rfl, rfl, rfl, rfl⟩ := h
    refine this.mono ?_
    rintro e w' ⟨v, rfl, q1, q2⟩
    obtain ⟨va, vc, e, _⟩ := id q1
    rw [List.length_map] at e
    subst e
    exact ⟨va, vc, rfl, q1, q2⟩
theorem parse_no (s last : ByteArray) (g : Gl w) {n p : Nat} (h : see (parF s last) = .error (n, p)) :
    Calls Tryz.prog 5 #[.string s, .string last] w fun e w' => e = .returned (.tuple #[.agg #[.slice none 0 0, .int .i64 0, .int .i64 0, .int .u8 0], .int .u16 n, .int .i64 p]) ∧ Kp w w' := by
  obtain ⟨m, hm⟩ := g.max
  have := parse_any s last g.big hm
  cases hR : parF s last with
  | error x =>
    rw [hR] at h this
    simp only [see, Except.error.injEq] at h
    subst h
    exact this
  | ok x => rw [hR] at h; cases h
theorem nok1 : ∀ d ∈ L1.map Nd.q, Nok d := by
  intro d hd
  simp only [L1, List.map_cons, List.map_nil, List.mem_cons, List.not_mem_nil, or_false] at hd
  rcases hd with rfl | rfl <;> exact ⟨by decide, ⟨by decide, by decide, by decide, by decide⟩, by unfold Sm; decide, by unfold Sm; decide, by unfold Sm; decide⟩
theorem nok2 : ∀ d ∈ L2.map Nd.q, Nok d := by
  intro d hd
  simp only [L2, List.map_cons, List.map_nil, List.mem_cons, List.not_mem_nil, or_false] at hd
  rcases hd with rfl | rfl | rfl | rfl | rfl <;> exact ⟨by decide, ⟨by decide, by decide, by decide, by decide⟩, by unfold Sm; decide, by unfold Sm; decide, by unfold Sm; decide⟩
set_option maxHeartbeats 4000000 in
set_option maxRecDepth 100000 in
theorem known_any (g : Gl w) : Calls Tryz.prog 4 #[] w fun e w' => e = .returned (.bool true) ∧ Kp w w' := by
  have HG : Hid (Gl w) := g
  clear g
  go_enter Tryz.func4, Tryz.ntmps4
  go_wp2_with fail
  refine Calls.mono (parse_ok ⟨#[97, 42]⟩ ⟨#[]⟩ HG.out kn1) ?_
  rintro e w1 ⟨va1, vc1, rfl, q1, q2⟩
  have H1 : Hid (Pt w1 (.slice va1 2 vc1) (L1.map Nd.q) ∧ Kp w w1) := ⟨q1, q2⟩
  simp only [show L1.length = 2 from rfl]
  clear q1 q2
  go_wp2_with fail
  refine Calls.mono (parse_ok ⟨#[92, 118, 97, 124, 40, 98, 41, 43]⟩ ⟨#[]⟩ (HG.out.kp (kp_trans H1.out.2 (kp_alloc _ _))) kn2) ?_
  rintro e w2 ⟨va2, vc2, rfl, q1, q2⟩
  have H2 : Hid (Pt w2 (.slice va2 5 vc2) (L2.map Nd.q) ∧ Kp w w2 ∧ Kp w1 w2 ∧ PBox w1.heap.size (.slice va1 2 vc1) 1 0 0 w2) := ⟨q1, kp_trans (kp_trans H1.out.2 (kp_alloc _ _)) q2, kp_trans (kp_alloc _ _) q2, (show PBox _ _ _ _ _ (w1.alloc _) from alloc_new w1 _).kp q2⟩
  simp only [show L2.length = 5 from rfl]
  clear q1 q2
  go_wp2_with fail
  refine Calls.mono (parse_no ⟨#[97, 92, 43, 92, 43]⟩ ⟨#[]⟩ (HG.out.kp (kp_trans H2.out.2.1 (kp_alloc _ _))) kn3) ?_
  rintro e w3 ⟨rfl, q⟩
  have H3 : Hid (Kp w w3 ∧ Pt w3 (.slice va1 2 vc1) (L1.map Nd.q) ∧ Pt w3 (.slice va2 5 vc2) (L2.map Nd.q) ∧ PBox w1.heap.size (.slice va1 2 vc1) 1 0 0 w3 ∧ PBox w2.heap.size (.slice va2 5 vc2) 4 1 0 w3) :=
    ⟨kp_trans (kp_trans H2.out.2.1 (kp_alloc _ _)) q, (H1.out.1.kp H2.out.2.2.1).kp (kp_trans (kp_alloc _ _) q), H2.out.1.kp (kp_trans (kp_alloc _ _) q), H2.out.2.2.2.kp (kp_trans (kp_alloc _ _) q), (show PBox _ _ _ _ _ (w2.alloc _) from alloc_new w2 _).kp q⟩
  clear q
  have HA : Hid (∀ ob, PBox w1.heap.size (.slice va1 2 vc1) 1 0 0 (w3.alloc ob)) := fun ob => H3.out.2.2.2.1.kp (kp_alloc _ _)
  have y0 := fun ob => (HA.out ob).cells.1
  have y1 := fun ob => (HA.out ob).cells.2.1
  have y2 := fun ob => (HA.out ob).cells.2.2.1
  have y3 := fun ob => (HA.out ob).cells.2.2.2
  go_wp2_with fail
  refine Calls.mono (pprint_any (K := 2) (H3.out.2.1.kp (kp_alloc _ _)) (by decide) (by decide) (by decide) (HG.out.kp (kp_trans H3.out.1 (kp_alloc _ _))) (by unfold Sm; decide) nok1 ks1 kp1 (by decide)) ?_
  rintro e w4 ⟨rfl, q⟩
  have H4 : Hid (Kp w w4 ∧ Pt w4 (.slice va2 5 vc2) (L2.map Nd.q) ∧ PBox w2.heap.size (.slice va2 5 vc2) 4 1 0 w4) := ⟨kp_trans (kp_trans H3.out.1 (kp_alloc _ _)) q, H3.out.2.2.1.kp (kp_trans (kp_alloc _ _) q), H3.out.2.2.2.2.kp (kp_trans (kp_alloc _ _) q)⟩
  clear q y0 y1 y2 y3 HA
  obtain ⟨y0, y1, y2, y3⟩ := H4.out.2.2.cells
  unfold T1
  go_wp2_with fail
  refine Calls.mono (pprint_any (K := 2) H4.out.2.1 (by decide) (by decide) (by decide) (HG.out.kp H4.out.1) (by unfold Sm; decide) nok2 ks2 kp2 (by decide)) ?_
  rintro e w5 ⟨rfl, q⟩
  have H5 : Hid (Kp w w5) := kp_trans H4.out.1 q
  clear q y0 y1 y2 y3
  unfold T2
  go_wp2_with fail
  go_ret
  exact ⟨rfl, H5.out⟩
end
end Go.Proofs.YtmghdogoeehodaaGreatDoor
/- The document's code of a pattern's tree, as a list of instructions: plain. -/
namespace Go.Proofs.YtmghdogoeehodaaGreatDoor
open Go.ChangeShapes Go.WideShapes Go.ChangeAt Go.RowKit
set_option linter.unusedVariables false
set_option linter.unusedSimpArgs false
/-- An instruction. -/
structure Ins where
  op : Nat
  c : Nat := 0
  set : S4 := zeroS
  x : Int := 0
  y : Int := 0
/-- A pattern as a tree. -/
inductive PT where
  | empty
  | leaf (i : Ins)
  | seq (a b : PT)
  | alt (a b : PT)
  | many (mn : Nat) (mx : Option Nat) (lz : Bool) (k : PT)
  | group (n : Int) (k : PT)
def splitI (lz : Bool) (p e : Nat) : Ins := if lz then { op := 4, x := e, y := (p : Int) + 1 } else { op := 4, x := (p : Int) + 1, y := e }
def jumpI (e : Nat) : Ins := { op := 5, x := e }
def startI (r : Nat) : Ins := { op := 12, x := r }
def goneI (r : Nat) : Ins := { op := 13, x := r }
def saveI (x : Int) : Ins := { op := 6, x := x }
def PT.len : PT → Nat
  | .empty => 0
  | .leaf _ => 1
  | .seq a b => a.len + b.len
  | .alt a b => a.len + b.len + 2
  | .many mn mx _ k => mn * k.len + (match mx with | none => k.len + 4 | some m => (m - mn) * (k.len + 3))
  | .group _ k => k.len + 2
def PT.rnd : PT → Nat
  | .empty => 0
  | .leaf _ => 0
  | .seq a b => a.rnd + b.rnd
  | .alt a b => a.rnd + b.rnd
  | .many mn mx _ k => mn * k.rnd + (match mx with | none => k.rnd + 1 | some m => (m - mn) * (k.rnd + 1))
  | .group _ k => k.rnd
def copiesC (f : Nat → Nat → List Ins) (l q : Nat) : Nat → Nat → Nat → List Ins
  | 0, _, _ => []
  | n + 1, p, r => f p r ++ copiesC f l q n (p + l) (r + q)
/-- Tries of a kid, one behind the other; 's': the split at a place. -/
def triesC (f : Nat → Nat → List Ins) (l q : Nat) (s : Nat → Ins) : Nat → Nat → Nat → List Ins
  | 0, _, _ => []
  | n + 1, p, r => s p :: startI r :: f (p + 2) (r + 1) ++ goneI r :: triesC f l q s n (p + l + 3) (r + q + 1)
def PT.code : PT → Nat → Nat → List Ins
  | .empty, _, _ => []
  | .leaf i, _, _ => [i]
  | .seq a b, p, r => a.code p r ++ b.code (p + a.len) (r + a.rnd)
  | .alt a b, p, r => splitI false p (p + a.len + 2) :: a.code (p + 1) r ++ jumpI (p + a.len + b.len + 2) :: b.code (p + a.len + 2) (r + a.rnd)
  | .many mn mx lz k, p, r => copiesC k.code k.len k.rnd mn p r ++
      (match mx with
       | none => splitI lz (p + mn * k.len) (p + mn * k.len + k.len + 4) :: startI (r + mn * k.rnd) :: k.code (p + mn * k.len + 2) (r + mn * k.rnd + 1) ++ [goneI (r + mn * k.rnd), jumpI (p + mn * k.len)]
       | some m => triesC k.code k.len k.rnd (fun a => splitI lz a (p + mn * k.len + (m - mn) * (k.len + 3))) (m - mn) (p + mn * k.len) (r + mn * k.rnd))
  | .group n k, p, r => saveI (2 * n) :: k.code (p + 1) r ++ [saveI (2 * n + 1)]
theorem copiesC_len (f : Nat → Nat → List Ins) (l q : Nat) (hf : ∀ p r, (f p r).length = l) (n p r : Nat) : (copiesC f l q n p r).length = n * l := by
  induction n generalizing p r with
  | zero => simp [copiesC]
  | succ n ih => simp only [copiesC, List.length_append, hf, ih, Nat.succ_mul]; omega
theorem triesC_len (f : Nat → Nat → List Ins) (l q : Nat) (s : Nat → Ins) (hf : ∀ p r, (f p r).length = l) (n p r : Nat) : (triesC f l q s n p r).length = n * (l + 3) := by
  induction n generalizing p r with
  | zero => simp [triesC]
  | succ n ih => simp only [triesC, List.length_append, List.length_cons, hf, ih, Nat.succ_mul]; omega
theorem PT.code_len (t : PT) (p r : Nat) : (t.code p r).length = t.len := by
  induction t generalizing p r with
  | empty => rfl
  | leaf i => rfl
  | seq a b iha ihb => simp [PT.code, PT.len, iha, ihb]
  | alt a b iha ihb => simp [PT.code, PT.len, iha, ihb]; omega
  | many mn mx lz k ih =>
    cases mx with
    | none => simp [PT.code, PT.len, ih, copiesC_len _ _ _ ih]
    | some m => simp [PT.code, PT.len, copiesC_len _ _ _ ih, triesC_len _ _ _ _ ih]
  | group n k ih => simp [PT.code, PT.len, ih]
/-- What has been laid, and how many rounds; what comes of one more tree. -/
def runT (t : PT) (x : List Ins × Nat) : Option (List Ins × Nat) :=
  if x.1.length + t.len ≤ 2000 then some (x.1 ++ t.code x.1.length x.2, x.2 + t.rnd) else none
theorem runT_empty (x : List Ins × Nat) (h : x.1.length ≤ 2000) : runT .empty x = some x := by simp [runT, PT.len, PT.code, PT.rnd, h]
theorem runT_seq (a b : PT) (x : List Ins × Nat) : runT (.seq a b) x = (runT a x).bind (runT b) := by
  unfold runT
  by_cases h : x.1.length + a.len ≤ 2000
  · rw [if_pos h, Option.bind_some]
    by_cases h2 : x.1.length + (a.len + b.len) ≤ 2000
    · rw [if_pos (by simpa [PT.len] using h2), if_pos (by simp [PT.code_len]; omega)]
      simp only [List.length_append, PT.code_len, PT.len, PT.code, PT.rnd, List.append_assoc, Nat.add_assoc]
    · rw [if_neg (by simpa [PT.len] using h2), if_neg (by simp [PT.code_len]; omega)]
  · rw [if_neg h, if_neg (by simp only [PT.len]; omega), Option.bind_none]
theorem runT_ge {t : PT} {x y : List Ins × Nat} (h : runT t x = some y) : y.1.length ≤ 2000 := by
  unfold runT at h
  split at h
  · cases h; simp [PT.code_len]; assumption
  · cases h
theorem copies_rnd (a b k : Nat) (h : a ≤ b) : k * a ≤ k * b := Nat.mul_le_mul_left k h
theorem PT.rnd_le (t : PT) : t.rnd ≤ t.len := by
  induction t with
  | empty => simp [PT.rnd]
  | leaf i => simp [PT.rnd]
  | seq a b iha ihb => simp only [PT.rnd, PT.len]; omega
  | alt a b iha ihb => simp only [PT.rnd, PT.len]; omega
  | many mn mx lz k ih =>
    have h1 := copies_rnd _ _ mn ih
    cases mx with
    | none => simp only [PT.rnd, PT.len]; omega
    | some m =>
      have h2 := copies_rnd (k.rnd + 1) (k.len + 3) (m - mn) (by omega)
      simp only [PT.rnd, PT.len]; omega
  | group n k ih => simp only [PT.rnd, PT.len]; omega
/-- Not too long; no more rounds than instructions. -/
def Okx (x : List Ins × Nat) : Prop := x.1.length ≤ 2000 ∧ x.2 ≤ x.1.length
theorem runT_ok {t : PT} {x y : List Ins × Nat} (h : runT t x = some y) (hx : Okx x) : Okx y := by
  refine ⟨runT_ge h, ?_⟩
  unfold runT at h
  have := t.rnd_le
  have := hx.2
  split at h
  · cases h; simp only [List.length_append, PT.code_len]; omega
  · cases h
/-- One behind the other. -/
def seqOf : List PT → PT
  | [] => .empty
  | t :: ts => .seq t (seqOf ts)
theorem runT_seqOf_append (us bs : List PT) (x : List Ins × Nat) (hx : x.1.length ≤ 2000) : runT (seqOf (us ++ bs)) x = (runT (seqOf us) x).bind (runT (seqOf bs)) := by
  induction us generalizing x with
  | nil => simp [seqOf, runT_empty x hx]
  | cons a us ih =>
    simp only [List.cons_append, seqOf, runT_seq]
    cases h : runT a x with
    | none => rfl
    | some y => simp only [Option.bind_some]; exact ih y (runT_ge h)
/-- The instruction of a node that has no kids. -/
def leafI (d : Nq) : Ins :=
  if d.op = 2 then { op := 1, c := d.c } else if d.op = 4 then { op := 3, set := d.set } else if d.op = 10 then { op := 8 } else if d.op = 11 then { op := 9 } else if d.op = 12 then { op := 10 }
  else if d.op = 13 then { op := 11 } else if d.op = 14 then { op := 6, x := 20 } else if d.op = 15 then { op := 6, x := 21 } else if d.op = 9 then { op := 7, x := d.n } else { op := 2 }
def mapT (f : Int → Option PT) : List Int → Option (List PT)
  | [] => some []
  | a :: r => (f a).bind fun t => (mapT f r).map fun ts => t :: ts
def altOf : List PT → PT
  | [] => .empty
  | [t] => t
  | t :: u :: ts => .alt t (altOf (u :: ts))
/-- The tree at a node. -/
def toT (L : List Nq) : Nat → Int → Option PT
  | 0, _ => none
  | n + 1, a =>
    if hasB L a then
      let d := nodeAt L a
      if d.op = 5 then if 1 ≤ d.kids.length then (mapT (toT L n) d.kids).map seqOf else none
      else if d.op = 1 then some .empty
      else if d.op = 6 then if 1 ≤ d.kids.length then (mapT (toT L n) d.kids).map altOf else none
      else if d.op = 7 then if d.kids.length = 1 ∧ 0 ≤ d.mn ∧ d.mn ≤ 60 ∧ d.mx ≤ 60 ∧ (d.mx < 0 ∨ d.mn ≤ d.mx) then (toT L n (d.kids.headD 0)).map (.many d.mn.toNat (if d.mx < 0 then none else some d.mx.toNat) d.lz) else none
      else if d.op = 8 then if d.kids.length = 1 ∧ 0 ≤ d.n ∧ d.n ≤ 9 then (toT L n (d.kids.headD 0)).map (.group d.n) else none
      else some (.leaf (leafI d))
    else none
end Go.Proofs.YtmghdogoeehodaaGreatDoor
/- Trees of patterns: their size, and what is asked of their leaves. -/
namespace Go.Proofs.YtmghdogoeehodaaGreatDoor
set_option linter.unusedVariables false
set_option linter.unusedSimpArgs false
def PT.size : PT → Nat
  | .seq a b => a.size + b.size + 1
  | .alt a b => a.size + b.size + 1
  | .many _ _ _ k => k.size + 1
  | .group _ k => k.size + 1
  | _ => 1
def leafK (i : Ins) : Prop := (i.op = 1 ∨ i.op = 2 ∨ i.op = 3 ∨ i.op = 8 ∨ i.op = 9 ∨ i.op = 10 ∨ i.op = 11) ∨ (i.op = 6 ∧ 0 ≤ i.x ∧ i.x < 22) ∨ (i.op = 7 ∧ 0 ≤ i.x ∧ i.x < 10)
def PT.gd : PT → Prop
  | .empty => True
  | .leaf i => leafK i
  | .seq a b => a.gd ∧ b.gd
  | .alt a b => a.gd ∧ b.gd
  | .many _ _ _ k => k.gd
  | .group n k => (0 ≤ n ∧ n ≤ 9) ∧ k.gd
end Go.Proofs.YtmghdogoeehodaaGreatDoor
/- What is kept of the nodes while a pattern is read: they are trees. -/
namespace Go.Proofs.YtmghdogoeehodaaGreatDoor
set_option linter.unusedVariables false
set_option linter.unusedSimpArgs false
def seqSz (T : Nat → PT) (ks : List Nat) : Nat := (ks.map fun k => (T k).size + 1).sum
/-- A piece that may be repeated: a row is of bytes. -/
def Pcr (nds : List Nd) (p : Nat) : Prop := ∀ d, nds[p]? = some d → d.op = 5 → ∀ x ∈ d.kids, ∃ e, nds[x]? = some e ∧ e.op = 2
def opA (nds : List Nd) (p : Nat) : Nat := ((nds[p]?).map (·.op)).getD 0
/-- What a node's word asks of its kids. -/
def Shp (nds : List Nd) (d : Nd) : Prop :=
  (leafB d.op = true ∧ d.kids = []) ∨ ((d.op = 5 ∨ d.op = 6) ∧ 2 ≤ d.kids.length) ∨ (d.op = 9 ∧ d.kids = []) ∨ (d.op = 8 ∧ ∃ x, d.kids = [x]) ∨
  (d.op = 7 ∧ ∃ x, d.kids = [x] ∧ (0 ≤ d.mn ∧ d.mn ≤ 60 ∧ (d.mx < 0 ∨ (d.mn ≤ d.mx ∧ d.mx ≤ 60))) ∧ repB (opA nds x) = true ∧ Pcr nds x)
structure Wf (r : RS) (A : List Nat) : Prop where
  kl : ∀ (k : Nat) (d : Nd), r.nds[k]? = some d → ∀ x ∈ d.kids, x < k
  kn : ∀ (k : Nat) (d : Nd), r.nds[k]? = some d → d.kids.Nodup
  sh : ∀ (k : Nat) (d : Nd), r.nds[k]? = some d → Shp r.nds d
  own : ∀ (k1 k2 : Nat) (d1 d2 : Nd) (x : Nat), r.nds[k1]? = some d1 → r.nds[k2]? = some d2 → x ∈ d1.kids → x ∈ d2.kids → k1 = k2
  rn : A.Nodup
  fr : ∀ x ∈ A, ∀ (k : Nat) (d : Nd), r.nds[k]? = some d → x ∉ d.kids
  lt : ∀ x ∈ A, x < r.nds.length
  cl : ∀ j, r.cl.getD j false = true → 1 ≤ j ∧ j ≤ r.g
  g : r.g ≤ 9
  ns : ∀ (k : Nat) (d : Nd), r.nds[k]? = some d → (d.op = 8 ∨ d.op = 9) → 1 ≤ d.n ∧ d.n ≤ r.g
  tr : ∃ T : Nat → PT, (∀ k, k < r.nds.length → (T k).gd ∧ ∀ n, k < n → toT (r.nds.map Nd.q) n (k : Int) = some (T k)) ∧ seqSz T A ≤ 3 * r.nds.length
theorem Pcr.ext {nds e : List Nd} {p : Nat} (h : Pcr nds p) (hp : p < nds.length) : Pcr (nds ++ e) p := by
  intro d hd h5 x hx
  rw [List.getElem?_append_left hp] at hd
  obtain ⟨y, h1, h2⟩ := h d hd h5 x hx
  exact ⟨y, by rw [List.getElem?_append_left (List.getElem?_eq_some_iff.1 h1).1]; exact h1, h2⟩
theorem opA_ext {nds e : List Nd} {p : Nat} (hp : p < nds.length) : opA (nds ++ e) p = opA nds p := by unfold opA; rw [List.getElem?_append_left hp]
theorem Shp.ext {nds e : List Nd} {d : Nd} (h : Shp nds d) (hk : ∀ x ∈ d.kids, x < nds.length) : Shp (nds ++ e) d := by
  rcases h with h | h | h | h | ⟨h0, x, hx, h1, h2, h3⟩
  · exact .inl h
  · exact .inr (.inl h)
  · exact .inr (.inr (.inl h))
  · exact .inr (.inr (.inr (.inl h)))
  · have hl := hk x (by rw [hx]; simp)
    exact .inr (.inr (.inr (.inr ⟨h0, x, hx, h1, by rw [opA_ext hl]; exact h2, h3.ext hl⟩)))
theorem mapT_mono {f g : Int → Option PT} : ∀ (ks : List Int) (ts : List PT), (∀ k ∈ ks, ∀ t, f k = some t → g k = some t) → mapT f ks = some ts → mapT g ks = some ts
  | [], ts, _, h => h
  | k :: ks, ts, q, h => by
    rw [mapT] at h ⊢
    cases h1 : f k with
    | none => rw [h1] at h; cases h
    | some t =>
      rw [h1, Option.bind_some] at h
      rw [q k (by simp) t h1, Option.bind_some]
      cases h2 : mapT f ks with
      | none => rw [h2] at h; cases h
      | some us => rw [h2] at h; rw [mapT_mono ks us (fun x hx => q x (by simp [hx])) h2]; exact h
theorem toT_ext {L e : List Nq} : ∀ (n : Nat) (a : Int) (t : PT), toT L n a = some t → toT (L ++ e) n a = some t
  | 0, a, t, h => by cases h
  | n + 1, a, t, h => by
    rw [toT] at h ⊢
    by_cases hh : hasB L a = true
    · rw [if_pos hh] at h
      have hb : 0 ≤ a ∧ a < (L.length : Int) := of_decide_eq_true hh
      have hh2 : hasB (L ++ e) a = true := decide_eq_true ⟨hb.1, by rw [List.length_append]; omega⟩
      have hn : nodeAt (L ++ e) a = nodeAt L a := by unfold nodeAt; rw [List.getElem?_append_left (by omega)]
      rw [if_pos hh2, hn]
      simp only at h ⊢
      have hm : ∀ ts ks, mapT (toT L n) ks = some ts → mapT (toT (L ++ e) n) ks = some ts := fun ts ks => mapT_mono ks ts fun k _ t ht => toT_ext n k t ht
      have ho : ∀ (f : List PT → PT) ks, (mapT (toT L n) ks).map f = some t → (mapT (toT (L ++ e) n) ks).map f = some t := fun f ks h => by
        obtain ⟨ts, h1, h2⟩ := Option.map_eq_some_iff.1 h
        rw [hm ts ks h1]; simp [h2]
      have hs : ∀ (f : PT → PT) k, (toT L n k).map f = some t → (toT (L ++ e) n k).map f = some t := fun f k h => by
        obtain ⟨u, h1, h2⟩ := Option.map_eq_some_iff.1 h
        rw [toT_ext n k u h1]; simp [h2]
      split at h
      · rename_i h5
        rw [if_pos h5]
        split at h
        · rename_i h6; rw [if_pos h6]; exact ho _ _ h
        · cases h
      rename_i h5
      rw [if_neg h5]
      split at h
      · rename_i h6; rw [if_pos h6]; exact h
      rename_i h6
      rw [if_neg h6]
      split at h
      · rename_i h7
        rw [if_pos h7]
        split at h
        · rename_i h8; rw [if_pos h8]; exact ho _ _ h
        · cases h
      rename_i h7
      rw [if_neg h7]
      split at h
      · rename_i h8
        rw [if_pos h8]
        split at h
        · rename_i h9; rw [if_pos h9]; exact hs _ _ h
        · cases h
      rename_i h8
      rw [if_neg h8]
      split at h
      · rename_i h9
        rw [if_pos h9]
        split at h
        · rename_i h10; rw [if_pos h10]; exact hs _ _ h
        · cases h
      rename_i h9
      rw [if_neg h9]
      exact h
    · rw [if_neg hh] at h; cases h
theorem mapT_nat {f : Int → Option PT} {T : Nat → PT} : ∀ (ks : List Nat), (∀ k ∈ ks, f (k : Int) = some (T k)) → mapT f (ks.map fun (k : Nat) => (k : Int)) = some (ks.map T)
  | [], _ => rfl
  | k :: ks, q => by
    rw [List.map_cons, mapT, q k (by simp), mapT_nat ks (fun x hx => q x (by simp [hx]))]
    rfl
theorem seq_size (T : Nat → PT) : ∀ ks : List Nat, (seqOf (ks.map T)).size = seqSz T ks + 1
  | [] => rfl
  | k :: ks => by
    have := seq_size T ks
    simp only [List.map_cons, seqOf, PT.size, seqSz, List.sum_cons] at this ⊢
    omega
theorem alt_size (T : Nat → PT) : ∀ ks : List Nat, (altOf (ks.map T)).size ≤ seqSz T ks + 1
  | [] => by simp [altOf, PT.size]
  | [k] => by simp [altOf, seqSz]; omega
  | k :: l :: ks => by
    have := alt_size T (l :: ks)
    simp only [List.map_cons, altOf, PT.size, seqSz, List.sum_cons] at this ⊢
    omega
theorem seq_gd (T : Nat → PT) : ∀ ks : List Nat, (∀ k ∈ ks, (T k).gd) → (seqOf (ks.map T)).gd
  | [], _ => trivial
  | k :: ks, h => ⟨h k (by simp), seq_gd T ks fun x hx => h x (by simp [hx])⟩
theorem alt_gd (T : Nat → PT) : ∀ ks : List Nat, (∀ k ∈ ks, (T k).gd) → (altOf (ks.map T)).gd
  | [], _ => trivial
  | [k], h => h k (by simp)
  | k :: l :: ks, h => ⟨h k (by simp), alt_gd T (l :: ks) fun x hx => h x (by simp [hx])⟩
end Go.Proofs.YtmghdogoeehodaaGreatDoor
/- One node more. -/
namespace Go.Proofs.YtmghdogoeehodaaGreatDoor
set_option linter.unusedVariables false
set_option linter.unusedSimpArgs false
theorem tree_new {nds : List Nd} {d : Nd} {T : Nat → PT} {g : Nat} (hg : g ≤ 9) (hT : ∀ k, k < nds.length → (T k).gd ∧ ∀ n, k < n → toT (nds.map Nd.q) n (k : Int) = some (T k)) (hk : ∀ x ∈ d.kids, x < nds.length) (hs : Shp nds d) (hn : (d.op = 8 ∨ d.op = 9) → 1 ≤ d.n ∧ d.n ≤ g) :
    ∃ t : PT, t.gd ∧ t.size ≤ seqSz T d.kids + 1 ∧ ∀ n, nds.length < n → toT ((nds ++ [d]).map Nd.q) n (nds.length : Int) = some t := by
  have hh : hasB ((nds ++ [d]).map Nd.q) (nds.length : Int) = true := decide_eq_true ⟨by omega, by simp; omega⟩
  have hnode : nodeAt ((nds ++ [d]).map Nd.q) (nds.length : Int) = d.q := by unfold nodeAt; simp
  have hone : ∀ m k, k ∈ d.kids → nds.length ≤ m → toT ((nds ++ [d]).map Nd.q) m (k : Int) = some (T k) := fun m k hkk hm => by
    have := hk k hkk
    rw [List.map_append]
    exact toT_ext _ _ _ ((hT k this).2 m (by omega))
  have hall : ∀ m, nds.length ≤ m → mapT (toT ((nds ++ [d]).map Nd.q) m) d.q.kids = some (d.kids.map T) := fun m hm => mapT_nat d.kids fun k hkk => hone m k hkk hm
  have hgd : ∀ k ∈ d.kids, (T k).gd := fun k hkk => (hT k (hk k hkk)).1
  have hlen : d.q.kids.length = d.kids.length := by simp [Nd.q]
  have start : ∀ t : PT, t.gd → t.size ≤ seqSz T d.kids + 1 → (∀ m, nds.length ≤ m → (if d.q.op = 5 then if 1 ≤ d.q.kids.length then (mapT (toT ((nds ++ [d]).map Nd.q) m) d.q.kids).map seqOf else none
      else if d.q.op = 1 then some .empty
      else if d.q.op = 6 then if 1 ≤ d.q.kids.length then (mapT (toT ((nds ++ [d]).map Nd.q) m) d.q.kids).map altOf else none
      else if d.q.op = 7 then if d.q.kids.length = 1 ∧ 0 ≤ d.q.mn ∧ d.q.mn ≤ 60 ∧ d.q.mx ≤ 60 ∧ (d.q.mx < 0 ∨ d.q.mn ≤ d.q.mx) then (toT ((nds ++ [d]).map Nd.q) m (d.q.kids.headD 0)).map (.many d.q.mn.toNat (if d.q.mx < 0 then none else some d.q.mx.toNat) d.q.lz) else none
      else if d.q.op = 8 then if d.q.kids.length = 1 ∧ 0 ≤ d.q.n ∧ d.q.n ≤ 9 then (toT ((nds ++ [d]).map Nd.q) m (d.q.kids.headD 0)).map (.group d.q.n) else none
      else some (.leaf (leafI d.q))) = some t) → ∃ t : PT, t.gd ∧ t.size ≤ seqSz T d.kids + 1 ∧ ∀ n, nds.length < n → toT ((nds ++ [d]).map Nd.q) n (nds.length : Int) = some t := fun t h1 h2 h3 =>
    ⟨t, h1, h2, fun n hn => by
      obtain ⟨m, rfl⟩ : ∃ m, n = m + 1 := ⟨n - 1, by omega⟩
      rw [toT, if_pos hh, hnode]
      exact h3 m (by omega)⟩
  have eop : d.q.op = d.op := rfl
  rcases hs with ⟨hl, hk0⟩ | ⟨ho, h2⟩ | ⟨ho, hk0⟩ | ⟨ho, x, hx⟩ | ⟨ho, x, hx, hb, _, _⟩
  · by_cases h1 : d.op = 1
    · exact start .empty trivial (by simp [PT.size]) fun m hm => by rw [eop, if_neg (by omega), if_pos h1]
    · have hor : d.op = 2 ∨ d.op = 3 ∨ d.op = 4 ∨ d.op = 10 ∨ d.op = 11 ∨ d.op = 12 ∨ d.op = 13 ∨ d.op = 14 ∨ d.op = 15 := by unfold leafB at hl; simp at hl; omega
      refine start (.leaf (leafI d.q)) ?_ (by simp [PT.size]) fun m hm => by rw [eop, if_neg (by omega), if_neg h1, if_neg (by omega), if_neg (by omega), if_neg (by omega)]
      show leafK (leafI d.q)
      unfold leafI leafK
      rw [eop]
      rcases hor with h | h | h | h | h | h | h | h | h <;> simp [h]
  · rcases ho with ho | ho
    · exact start (seqOf (d.kids.map T)) (seq_gd T _ hgd) (by rw [seq_size]; exact Nat.le_refl _) fun m hm => by rw [eop, if_pos ho, if_pos (by rw [hlen]; omega), hall m hm]; rfl
    · exact start (altOf (d.kids.map T)) (alt_gd T _ hgd) (alt_size T _) fun m hm => by rw [eop, if_neg (by omega), if_neg (by omega), if_pos ho, if_pos (by rw [hlen]; omega), hall m hm]; rfl
  · have hnn := hn (.inr ho)
    refine start (.leaf (leafI d.q)) ?_ (by simp [PT.size]) fun m hm => by rw [eop, if_neg (by omega), if_neg (by omega), if_neg (by omega), if_neg (by omega), if_neg (by omega)]
    show leafK (leafI d.q)
    unfold leafI leafK
    rw [eop]
    have e : d.q.n = (d.n : Int) := rfl
    simp [ho, e]
    omega
  · have hnn := hn (.inl ho)
    have e : d.q.n = (d.n : Int) := rfl
    have eh : d.q.kids.headD 0 = (x : Int) := by simp [Nd.q, hx]
    have hxm : x ∈ d.kids := by rw [hx]; simp
    refine start (.group d.n (T x)) ⟨by omega, hgd x hxm⟩ (by simp [PT.size, seqSz, hx]) fun m hm => ?_
    rw [eop, if_neg (by omega), if_neg (by omega), if_neg (by omega), if_neg (by omega), if_pos ho, if_pos ⟨by rw [hlen, hx]; rfl, by omega, by omega⟩, eh, hone m x hxm hm, e]
    rfl
  · have eh : d.q.kids.headD 0 = (x : Int) := by simp [Nd.q, hx]
    have hxm : x ∈ d.kids := by rw [hx]; simp
    have e1 : d.q.mn = d.mn := rfl
    have e2 : d.q.mx = d.mx := rfl
    refine start (.many d.q.mn.toNat (if d.q.mx < 0 then none else some d.q.mx.toNat) d.q.lz (T x)) (hgd x hxm) (by simp [PT.size, seqSz, hx]) fun m hm => ?_
    rw [eop, if_neg (by omega), if_neg (by omega), if_neg (by omega), if_pos ho, if_pos ⟨by rw [hlen, hx]; rfl, by omega, by omega, by omega, by omega⟩, eh, hone m x hxm hm]
    rfl
theorem seqSz_append (T : Nat → PT) (a b : List Nat) : seqSz T (a ++ b) = seqSz T a + seqSz T b := by simp [seqSz]
theorem seqSz_congr {T U : Nat → PT} {a : List Nat} (h : ∀ k ∈ a, T k = U k) : seqSz T a = seqSz U a := by
  unfold seqSz
  congr 1
  exact List.map_congr_left fun k hk => by rw [h k hk]
theorem get_snoc {nds : List Nd} {d e : Nd} {k : Nat} (h : (nds ++ [d])[k]? = some e) : (k < nds.length ∧ nds[k]? = some e) ∨ (k = nds.length ∧ e = d) := by
  by_cases hk : k < nds.length
  · rw [List.getElem?_append_left hk] at h; exact .inl ⟨hk, h⟩
  · have := (List.getElem?_eq_some_iff.1 h).1
    simp at this
    have e1 : k = nds.length := by omega
    subst e1
    simp at h
    exact .inr ⟨rfl, h.symm⟩
theorem Wf.add {r : RS} {A : List Nat} {d : Nd} (h : Wf r (A ++ d.kids)) (hs : Shp r.nds d) (hn : (d.op = 8 ∨ d.op = 9) → 1 ≤ d.n ∧ d.n ≤ r.g) : Wf (addN d r).2 (A ++ [r.nds.length]) := by
  have hk : ∀ x ∈ d.kids, x < r.nds.length := fun x hx => h.lt x (by simp [hx])
  have hA : ∀ x ∈ A, x < r.nds.length := fun x hx => h.lt x (by simp [hx])
  have hrn := List.nodup_append.1 h.rn
  refine ⟨?_, ?_, ?_, ?_, ?_, ?_, ?_, h.cl, h.g, ?_, ?_⟩
  · intro k e he x hx
    rcases get_snoc he with ⟨h1, h2⟩ | ⟨h1, rfl⟩
    · exact h.kl k e h2 x hx
    · rw [h1]; exact hk x hx
  · intro k e he
    rcases get_snoc he with ⟨h1, h2⟩ | ⟨h1, rfl⟩
    · exact h.kn k e h2
    · exact hrn.2.1
  · intro k e he
    rcases get_snoc he with ⟨h1, h2⟩ | ⟨h1, rfl⟩
    · exact (h.sh k e h2).ext fun x hx => by have := h.kl k e h2 x hx; omega
    · exact hs.ext hk
  · intro k1 k2 d1 d2 x h1 h2 x1 x2
    rcases get_snoc h1 with ⟨a1, b1⟩ | ⟨a1, rfl⟩
    · rcases get_snoc h2 with ⟨a2, b2⟩ | ⟨a2, rfl⟩
      · exact h.own k1 k2 d1 d2 x b1 b2 x1 x2
      · exact absurd x1 (h.fr x (by simp [x2]) k1 d1 b1)
    · rcases get_snoc h2 with ⟨a2, b2⟩ | ⟨a2, rfl⟩
      · exact absurd x2 (h.fr x (by simp [x1]) k2 d2 b2)
      · omega
  · refine List.nodup_append.2 ⟨hrn.1, by simp, fun a ha b hb => ?_⟩
    simp only [List.mem_singleton] at hb
    have := hA a ha
    omega
  · intro x hx k e he hc
    rw [List.mem_append, List.mem_singleton] at hx
    rcases get_snoc he with ⟨h1, h2⟩ | ⟨h1, rfl⟩
    · rcases hx with hx | hx
      · exact h.fr x (by simp [hx]) k e h2 hc
      · have := h.kl k e h2 x hc; omega
    · rcases hx with hx | hx
      · exact hrn.2.2 x hx x hc rfl
      · have := hk x hc; omega
  · intro x hx
    rw [List.mem_append, List.mem_singleton] at hx
    show x < (r.nds ++ [d]).length
    rw [List.length_append]
    rcases hx with hx | hx
    · have := hA x hx; simp; omega
    · simp; omega
  · intro k e he ho
    rcases get_snoc he with ⟨h1, h2⟩ | ⟨h1, rfl⟩
    · exact h.ns k e h2 ho
    · exact hn ho
  · obtain ⟨T, hT, hz⟩ := h.tr
    obtain ⟨t, t1, t2, t3⟩ := tree_new h.g hT hk hs hn
    refine ⟨fun k => if k = r.nds.length then t else T k, fun k hkk => ?_, ?_⟩
    · show _ ∧ ∀ n, k < n → toT ((r.nds ++ [d]).map Nd.q) n (k : Int) = _
      by_cases e : k = r.nds.length
      · subst e
        simp only [if_pos rfl]
        exact ⟨t1, t3⟩
      · simp only [if_neg e]
        have hkk' : k < (r.nds ++ [d]).length := hkk
        rw [List.length_append] at hkk'
        simp at hkk'
        obtain ⟨q1, q2⟩ := hT k (by omega)
        refine ⟨q1, fun n hn => ?_⟩
        rw [List.map_append]
        exact toT_ext _ _ _ (q2 n hn)
    · rw [seqSz_append] at hz ⊢
      have e1 : seqSz (fun k => if k = r.nds.length then t else T k) A = seqSz T A := seqSz_congr fun k hkk => by rw [if_neg (by have := hA k hkk; omega)]
      rw [e1]
      have e2 : seqSz (fun k => if k = r.nds.length then t else T k) [r.nds.length] = t.size + 1 := by simp [seqSz]
      have e3 : (addN d r).2.nds.length = r.nds.length + 1 := by simp [addN]
      rw [e2, e3]
      omega
end Go.Proofs.YtmghdogoeehodaaGreatDoor
/- What is kept from piece to piece. -/
namespace Go.Proofs.YtmghdogoeehodaaGreatDoor
set_option linter.unusedVariables false
set_option linter.unusedSimpArgs false
structure Got (r r' : RS) (A : List Nat) (i : Nat) : Prop where
  wf : Wf r' (A ++ [i])
  g : r.g ≤ r'.g
  pre : ∃ e, r'.nds = r.nds ++ e
def PGot (r r' : RS) (A : List Nat) (i : Nat) : Prop := Got r r' A i ∧ Pcr r'.nds i
section
variable {s last : ByteArray} {r r' : RS} {t : Tok} {i n : Nat} {A ks : List Nat}
theorem Wf.k (h : Wf r A) (k : Nat) (md : ByteArray) (cs : Nat) : Wf { r with k := k, md := md, cs := cs } A := ⟨h.kl, h.kn, h.sh, h.own, h.rn, h.fr, h.lt, h.cl, h.g, h.ns, h.tr⟩
theorem Got.k {k : Nat} {md : ByteArray} {cs : Nat} (h : Got { r with k := k, md := md, cs := cs } r' A i) : Got r r' A i := ⟨h.wf, h.g, h.pre⟩
theorem Got.trans {r1 : RS} {A1 : List Nat} {j : Nat} (hg : r.g ≤ r1.g) (hp : ∃ e, r1.nds = r.nds ++ e) (h : Got r1 r' A i) : Got r r' A i := by
  obtain ⟨e1, h1⟩ := hp
  obtain ⟨e2, h2⟩ := h.pre
  exact ⟨h.wf, Nat.le_trans hg h.g, e1 ++ e2, by rw [h2, h1, List.append_assoc]⟩
theorem Pcr.new {nds : List Nd} {d : Nd} (h : d.op ≠ 5) : Pcr (nds ++ [d]) nds.length := by
  intro e he h5
  simp at he
  subst he
  exact absurd h5 h
theorem pg_leaf {d : Nd} (h : Wf r A) (hk : d.kids = []) (ho : leafB d.op = true) : PGot r (addN d r).2 A (addN d r).1 := by
  have h5 : d.op ≠ 5 := fun e => by rw [e] at ho; cases ho
  refine ⟨⟨Wf.add (d := d) (by rw [hk, List.append_nil]; exact h) (.inl ⟨ho, hk⟩) (fun q => ?_), Nat.le_refl _, [d], rfl⟩, Pcr.new h5⟩
  rcases q with q | q <;> (rw [q] at ho; cases ho)
theorem pg_of {x : Nat × RS} {d : Nd} (e : (.ok (addN d r) : Except (Nat × Nat) (Nat × RS)) = .ok (i, r')) (h : Wf r A) (hk : d.kids = []) (ho : leafB d.op = true) : PGot r r' A i := by
  injection e with e
  have := pg_leaf h hk ho
  rw [e] at this
  exact this
theorem join_got {op : Nat} (hop : op = 5 ∨ op = 6) (h : Wf r (A ++ ks)) : Got r (joinF op ks r).2 A (joinF op ks r).1 := by
  match ks, h with
  | [], h => exact (pg_leaf (d := { op := 1 }) (by rw [List.append_nil] at h; exact h) rfl rfl).1
  | [x], h => exact ⟨h, Nat.le_refl _, [], by simp [joinF]⟩
  | x :: y :: l, h => exact ⟨Wf.add (d := { op := op, kids := x :: y :: l }) h (.inr (.inl ⟨hop, by simp⟩)) (fun q => by simp only at q; omega), Nat.le_refl _, [_], rfl⟩
theorem wf_bytes (h : Wf r A) : ∀ l : List UInt8, Wf { r with nds := r.nds ++ bytesN l } (A ++ (List.range l.length).map (r.nds.length + ·)) := by
  intro l
  have key : ∀ n, n ≤ l.length → Wf { r with nds := r.nds ++ bytesN (l.take n) } (A ++ (List.range n).map (r.nds.length + ·)) := by
    intro n
    induction n with
    | zero => intro _; simp only [List.take_zero, bytesN, List.map_nil, List.append_nil, List.range_zero]; exact h
    | succ n ih =>
      intro hn
      have h1 := ih (by omega)
      have hl : (bytesN (l.take n)).length = n := by simp [bytesN]; omega
      have h2 := Wf.add (r := { r with nds := r.nds ++ bytesN (l.take n) }) (A := A ++ (List.range n).map (r.nds.length + ·)) (d := { op := 2, c := (l[n]'(by omega)).toNat }) (by simpa using h1) (.inl ⟨rfl, rfl⟩) (fun q => by simp at q)
      unfold addN at h2
      simp only [List.length_append, hl] at h2
      rw [List.range_succ, List.map_append, ← List.append_assoc]
      have e : bytesN (l.take (n + 1)) = bytesN (l.take n) ++ [{ op := 2, c := (l[n]'(by omega)).toNat }] := by
        rw [List.take_succ_eq_append_getElem (by omega)]; unfold bytesN; rw [List.map_append]; rfl
      rw [e, ← List.append_assoc]
      exact h2
  have := key l.length (Nat.le_refl _)
  rw [List.take_length] at this
  exact this
theorem again_got (h : Wf r A) : PGot r (againF last r).2 A (againF last r).1 := by
  unfold againF
  split
  · exact pg_leaf h rfl rfl
  · have hb := wf_bytes h last.data.toList
    have hl : last.data.toList.length = last.size := by rw [Array.length_toList]; rfl
    rw [hl] at hb
    have hj := join_got (op := 5) (.inl rfl) hb
    refine ⟨⟨hj.wf, hj.g, ?_⟩, ?_⟩
    · obtain ⟨e, he⟩ := hj.pre
      exact ⟨bytesN last.data.toList ++ e, by rw [he]; simp⟩
    · have hbl : (bytesN last.data.toList).length = last.size := by simp [bytesN]
      have hnode : ∀ j, j < last.size → ∀ e : List Nd, ∃ d, ((r.nds ++ bytesN last.data.toList) ++ e)[r.nds.length + j]? = some d ∧ d.op = 2 := fun j hj e => by
        refine ⟨{ op := 2, c := (last.data.toList[j]'(by rw [hl]; exact hj)).toNat }, ?_, rfl⟩
        rw [List.getElem?_append_left (by rw [List.length_append, hbl]; omega), List.getElem?_append_right (by omega), Nat.add_sub_cancel_left]
        unfold bytesN
        rw [List.getElem?_map, List.getElem?_eq_getElem (by rw [hl]; exact hj)]
        rfl
      unfold joinF
      split
      · exact Pcr.new (by decide)
      · rename_i x hx
        intro d hd h5
        have hx' : x ∈ (List.range last.size).map (r.nds.length + ·) := by rw [hx]; simp
        obtain ⟨j, hj, rfl⟩ := List.mem_map.1 hx'
        rw [List.mem_range] at hj
        obtain ⟨e, h1, h2⟩ := hnode j hj []
        rw [List.append_nil] at h1
        simp only at hd
        rw [h1] at hd
        injection hd with hd
        subst hd
        omega
      · intro d hd h5 x hx
        simp only [addN] at hd ⊢
        simp at hd
        subst hd
        simp only at hx
        obtain ⟨j, hj, rfl⟩ := List.mem_map.1 hx
        rw [List.mem_range] at hj
        exact hnode j hj _
end
end Go.Proofs.YtmghdogoeehodaaGreatDoor
/- Pieces, repetitions, groups, branches. -/
namespace Go.Proofs.YtmghdogoeehodaaGreatDoor
set_option linter.unusedVariables false
set_option linter.unusedSimpArgs false
section
variable {s last : ByteArray} {r r' : RS} {t : Tok} {i n : Nat} {A ks : List Nat}
theorem numG_60 {fr : Nat} : ∀ {f k n m j : Nat}, numG s fr f k n = some (m, j) → n ≤ 60 → m ≤ 60 := by
  intro f
  induction f with
  | zero => intro k n m j h hn; simp [numG] at h; omega
  | succ f ih =>
    intro k n m j h hn
    rw [numG] at h
    split at h
    · split at h
      · split at h
        · cases h
        · exact ih h (by omega)
      · cases h; exact hn
    · cases h; exact hn
theorem finF_b {k n : Nat} {m : Int} {y : Bool} {a : Nat} {b : Int} {c : Bool} {j : Nat} (h : finF s k n m y = some (a, b, c, j)) : a = n ∧ b = m ∧ ¬ (0 ≤ m ∧ m < n) := by
  unfold finF at h
  split at h
  · split at h
    · cases h
    · rename_i hq; cases h; exact ⟨rfl, rfl, hq⟩
  · split at h
    · split at h
      · cases h
      · rename_i hq; cases h; exact ⟨rfl, rfl, hq⟩
    · cases h
theorem bndF_b {k : Nat} {a : Nat} {b : Int} {c : Bool} {j : Nat} (h : bndF s k = some (a, b, c, j)) : a ≤ 60 ∧ (b < 0 ∨ ((a : Int) ≤ b ∧ b ≤ 60)) := by
  unfold bndF at h
  split at h
  · cases h
  · rename_i n k2 h2
    have n60 := numG_60 h2 (by omega)
    split at h
    · split at h
      · cases h
      · rename_i m k3 h3
        have m60 := numG_60 h3 (by omega)
        obtain ⟨rfl, rfl, q⟩ := finF_b h
        refine ⟨n60, ?_⟩
        split at q
        · rename_i hq; rw [if_pos hq]; omega
        · rename_i hq; rw [if_neg hq]; omega
    · obtain ⟨rfl, rfl, q⟩ := finF_b h
      refine ⟨n60, ?_⟩
      by_cases hq : (if pfx s k ⟨#[45]⟩ then k + 1 else k) < k2
      · rw [if_pos hq] at q ⊢; omega
      · rw [if_neg hq] at q ⊢; omega
theorem times_b {d : Nd} (h : timesF s t r = .ok (d, r')) : (d.op = 7 ∧ (0 ≤ d.mn ∧ d.mn ≤ 60 ∧ (d.mx < 0 ∨ (d.mn ≤ d.mx ∧ d.mx ≤ 60)))) ∧ ∃ k, r' = { r with k := k } := by
  unfold timesF at h
  split at h
  · cases h; exact ⟨⟨rfl, by decide⟩, r.k, rfl⟩
  · split at h
    · cases h; exact ⟨⟨rfl, by decide⟩, r.k, rfl⟩
    · split at h
      · split at h
        · cases h
        · rename_i n mx lz j hb
          cases h
          have := bndF_b hb
          exact ⟨⟨rfl, by simp only; omega⟩, j, rfl⟩
      · cases h; exact ⟨⟨rfl, by decide⟩, r.k, rfl⟩
theorem letter_got (hw : Wf r A) (h : letterF s t r = .ok (i, r')) : PGot r r' A i := by
  unfold letterF at h
  split at h
  · exact pg_of (x := (0, r)) h hw rfl rfl
  split at h
  · exact pg_of (x := (0, r)) h hw rfl rfl
  split at h
  · unfold edgeF at h
    split at h
    · have := pg_of (x := (0, r)) h (hw.k (r.k + 1) r.md r.cs) rfl rfl
      exact ⟨this.1.k, this.2⟩
    · split at h
      · have := pg_of (x := (0, r)) h (hw.k (r.k + 1) r.md r.cs) rfl rfl
        exact ⟨this.1.k, this.2⟩
      · cases h
  split at h
  · unfold backF at h
    split at h
    · rename_i hc
      injection h with h
      have e1 : i = r.nds.length := by rw [show i = (i, r').1 from rfl, ← h]; rfl
      have e2 : r' = (addN { op := 9, n := t.c - 48 } r).2 := by rw [show r' = (i, r').2 from rfl, ← h]
      subst e1 e2
      exact ⟨⟨Wf.add (d := { op := 9, n := t.c - 48 }) (by rw [List.append_nil]; exact hw) (.inr (.inr (.inl ⟨rfl, rfl⟩))) (fun _ => hw.cl _ hc), Nat.le_refl _, [_], rfl⟩, Pcr.new (by simp)⟩
    · cases h
  split at h
  · exact pg_of (x := (0, r)) h hw rfl rfl
  · cases h
theorem eol_got (hw : Wf r A) (h : eolF s t r = .ok (i, r')) : PGot r r' A i := by
  unfold eolF at h
  split at h
  · cases h
  · split at h
    · exact pg_of (x := (0, r)) h hw rfl rfl
    · exact pg_of (x := (0, r)) h hw rfl rfl
theorem set_got (hw : Wf r A) (h : setF s t r = .ok (i, r')) : PGot r r' A i := by
  unfold setF at h
  split at h
  · cases h
  · rename_i r1 hc
    unfold collF at hc
    split at hc
    · cases hc; exact pg_of (x := (0, r)) h hw rfl rfl
    · split at hc
      · cases hc
      · cases hc
  · rename_i q r1 hc
    unfold collF at hc
    split at hc
    · cases hc
    · split at hc
      · cases hc
      · cases hc
        have := pg_of (x := (0, r)) h (hw.k _ r.md r.cs) rfl rfl
        exact ⟨this.1.k, this.2⟩
theorem sign_got {G : Tok → RS → Except (Nat × Nat) (Nat × RS)} {first : Bool} (hw : Wf r A) (hG : ∀ i r', G t r = .ok (i, r') → PGot r r' A i) (h : signF G s last t first r = .ok (i, r')) : PGot r r' A i := by
  unfold signF at h
  split at h
  · split at h
    · exact pg_of (x := (0, r)) h hw rfl rfl
    · exact pg_of (x := (0, r)) h hw rfl rfl
  split at h
  · exact eol_got hw h
  split at h
  · exact pg_of (x := (0, r)) h hw rfl rfl
  split at h
  · exact pg_of (x := (0, r)) h hw rfl rfl
  split at h
  · exact pg_of (x := (0, r)) h hw rfl rfl
  split at h
  · injection h with h
    have := again_got (last := last) hw
    rw [h] at this
    exact this
  split at h
  · exact set_got hw h
  split at h
  · exact hG _ _ h
  · exact pg_of (x := (0, r)) h hw rfl rfl
theorem piece_got {G : Tok → RS → Except (Nat × Nat) (Nat × RS)} {first : Bool} (hw : Wf r A) (hG : ∀ i r', G t r = .ok (i, r') → PGot r r' A i) (h : pieceF G s last t first r = .ok (i, r')) : PGot r r' A i := by
  unfold pieceF at h
  split at h
  · exact sign_got hw hG h
  · split at h
    · exact letter_got hw h
    · exact pg_of (x := (0, r)) h hw rfl rfl
theorem group_got {BR : RS → Except (Nat × Nat) (Nat × Tok × RS)} (hw : Wf r A) (hB : ∀ r1 i t r2, Wf r1 A → BR r1 = .ok (i, t, r2) → Got r1 r2 A i) (h : groupF BR t r = .ok (i, r')) : PGot r r' A i := by
  unfold groupF at h
  split at h
  · cases h
  · rename_i h9
    have hg := hw.g
    split at h
    · cases h
    · rename_i kid en r1 h1
      have hw1 : Wf { r with g := r.g + 1 } A := ⟨hw.kl, hw.kn, hw.sh, hw.own, hw.rn, hw.fr, hw.lt, fun j hj => by have := hw.cl j hj; exact ⟨this.1, by show j ≤ r.g + 1; omega⟩, by show r.g + 1 ≤ 9; omega, fun k d hd ho => by have := hw.ns k d hd ho; exact ⟨this.1, by show d.n ≤ r.g + 1; omega⟩, hw.tr⟩
      have a := hB _ _ _ _ hw1 h1
      have ag : r.g + 1 ≤ r1.g := a.g
      split at h
      · cases h
      · cases h
        have b := a.wf
        have hw2 : Wf { r1 with cl := r1.cl.set (r.g + 1) true } (A ++ [kid]) := ⟨b.kl, b.kn, b.sh, b.own, b.rn, b.fr, b.lt, fun j hj => by
            show 1 ≤ j ∧ j ≤ r1.g
            by_cases e : j = r.g + 1
            · omega
            · refine b.cl j ?_
              simp only [List.getD_eq_getElem?_getD] at hj ⊢
              rw [List.getElem?_set_ne (by omega)] at hj
              exact hj, b.g, b.ns, b.tr⟩
        refine ⟨⟨Wf.add (d := { op := 8, n := r.g + 1, kids := [kid] }) hw2 (.inr (.inr (.inr (.inl ⟨rfl, kid, rfl⟩)))) (fun _ => ⟨by simp, ag⟩), by show r.g ≤ r1.g; omega, ?_⟩, Pcr.new (by simp)⟩
        obtain ⟨e, he⟩ := a.pre
        exact ⟨e ++ [{ op := 8, n := r.g + 1, kids := [kid] }], by simp only [addN]; rw [he]; simp⟩
theorem many_got {ks' : List Nat} (hw : Wf r (A ++ ks)) (hp : ∀ p ∈ ks, Pcr r.nds p) (h : manyF s t ks r = .ok (ks', r')) : Wf r' (A ++ ks') ∧ (∀ p ∈ ks', Pcr r'.nds p) ∧ r.g ≤ r'.g ∧ ∃ e, r'.nds = r.nds ++ e := by
  have lit : ∀ {k2 : List Nat} {r2 : RS}, (.ok (ks ++ [r.nds.length], { r with nds := r.nds ++ [{ op := 2, c := t.c }] }) : Except (Nat × Nat) (List Nat × RS)) = .ok (k2, r2) → Wf r2 (A ++ k2) ∧ (∀ p ∈ k2, Pcr r2.nds p) ∧ r.g ≤ r2.g ∧ ∃ e, r2.nds = r.nds ++ e := by
    intro k2 r2 e
    injection e with e
    injection e with e1 e2
    subst e1 e2
    have q := pg_leaf (d := { op := 2, c := t.c }) hw rfl rfl
    refine ⟨by rw [← List.append_assoc]; exact q.1.wf, fun p hpp => ?_, Nat.le_refl _, [_], rfl⟩
    rw [List.mem_append, List.mem_singleton] at hpp
    rcases hpp with hpp | rfl
    · exact (hp p hpp).ext (hw.lt p (by simp [hpp]))
    · exact Pcr.new (by simp)
  unfold manyF at h
  split at h
  · split at h
    · cases h
    · exact lit h
  · rename_i p hl
    split at h
    · rename_i hrep
      split at h
      · cases h
      · rename_i d r1 ht
        obtain ⟨⟨d7, db⟩, k, rfl⟩ := times_b ht
        injection h with h
        injection h with e1 e2
        subst e1 e2
        obtain ⟨l, rfl⟩ := List.getLast?_eq_some_iff.1 hl
        have hset : (l ++ [p]).set ((l ++ [p]).length - 1) r.nds.length = l ++ [r.nds.length] := by simp
        have hw' : Wf { r with k := k } ((A ++ l) ++ [p]) := by
          rw [List.append_assoc]
          exact hw.k k r.md r.cs
        have q := Wf.add (r := { r with k := k }) (A := A ++ l) (d := { d with kids := [p] }) hw' (.inr (.inr (.inr (.inr ⟨d7, p, rfl, db, hrep, hp p (List.mem_of_getLast? hl)⟩)))) (fun q => by simp only [d7] at q; omega)
        refine ⟨by simp only [hset]; rw [← List.append_assoc]; exact q, fun x hx => ?_, Nat.le_refl _, [_], rfl⟩
        simp only [hset, List.mem_append, List.mem_singleton] at hx
        rcases hx with hx | rfl
        · exact (hp x (by simp [hx])).ext (hw.lt x (by simp [hx]))
        · exact Pcr.new (by show d.op ≠ 5; omega)
    · split at h
      · cases h
      · exact lit h
theorem br_got {P : Tok → Bool → RS → Except (Nat × Nat) (Nat × RS)} (hP : ∀ t b r A i r', Wf r A → P t b r = .ok (i, r') → PGot r r' A i) :
    ∀ (f : Nat) (r : RS) (ks : List Nat) (i : Nat) (t : Tok) (r' : RS), Wf r (A ++ ks) → (∀ p ∈ ks, Pcr r.nds p) → brF P s f r ks = .ok (i, t, r') → Got r r' A i := by
  intro f
  induction f with
  | zero => intro r ks i t r' _ _ h; simp [brF] at h
  | succ f ih =>
    intro r ks i t r' hw hp h
    rw [brF] at h
    split at h
    · cases h
    · rename_i t1 k md cs hn
      have hw1 := hw.k k md cs
      split at h
      · cases h
        exact (join_got (.inl rfl) hw1).k
      · split at h
        · split at h
          · cases h
          · rename_i ks' r1 hm
            obtain ⟨q1, q2, q3, q4⟩ := many_got hw1 hp hm
            exact Got.trans (A1 := []) (j := 0) q3 q4 (ih _ _ _ _ _ q1 q2 h)
        · split at h
          · cases h
          · rename_i i1 r1 hp1
            obtain ⟨q1, q2⟩ := hP _ _ _ _ _ _ hw1 hp1
            refine Got.trans (A1 := []) (j := 0) q1.g q1.pre (ih _ _ _ _ _ (by rw [← List.append_assoc]; exact q1.wf) (fun p hpp => ?_) h)
            rw [List.mem_append, List.mem_singleton] at hpp
            rcases hpp with hpp | rfl
            · obtain ⟨e, he⟩ := q1.pre
              rw [he]
              exact (hp p hpp).ext (hw.lt p (by simp [hpp]))
            · exact q2
theorem brs_got {F : RS → Except (Nat × Nat) (Nat × Tok × RS)} (hF : ∀ r A i t r', Wf r A → F r = .ok (i, t, r') → Got r r' A i) :
    ∀ (f : Nat) (r : RS) (ks : List Nat) (i : Nat) (t : Tok) (r' : RS), Wf r (A ++ ks) → brsL F f r ks = .ok (i, t, r') → Got r r' A i := by
  intro f
  induction f with
  | zero => intro r ks i t r' _ h; simp [brsL] at h
  | succ f ih =>
    intro r ks i t r' hw h
    rw [brsL] at h
    split at h
    · cases h
    · rename_i i1 t1 r1 h1
      have q := hF _ _ _ _ _ hw h1
      have q1 : Wf r1 (A ++ (ks ++ [i1])) := by rw [← List.append_assoc]; exact q.wf
      split at h
      · exact Got.trans (A1 := []) (j := 0) q.g q.pre (ih _ _ _ _ _ q1 h)
      · cases h
        exact Got.trans (A1 := []) (j := 0) q.g q.pre (join_got (.inr rfl) q1)
theorem brsF_got : ∀ (n : Nat) (r : RS) (A : List Nat) (i : Nat) (t : Tok) (r' : RS), Wf r A → brsF s last n r = .ok (i, t, r') → Got r r' A i
  | 0, _, _, _, _, _, _, h => by cases h
  | n + 1, r, A, i, t, r', hw, h => by
    rw [brsF] at h
    refine brs_got (fun r1 A1 i1 t1 r2 h1 h2 => ?_) _ _ [] _ _ _ (by rw [List.append_nil]; exact hw) h
    refine br_got (fun t3 b3 r3 A3 i3 r4 h3 h4 => ?_) _ _ [] _ _ _ (by rw [List.append_nil]; exact h1) (fun p hp => by cases hp) h2
    exact piece_got h3 (fun i5 r5 h5 => group_got h3 (fun r6 i6 t6 r7 h6 h7 => brsF_got n r6 A3 i6 t6 r7 h6 h7) h5) h4
theorem wf0 : Wf rs0 [] where
  kl k d h := by simp [rs0] at h
  kn k d h := by simp [rs0] at h
  sh k d h := by simp [rs0] at h
  own k1 k2 d1 d2 x h := by simp [rs0] at h
  rn := by simp
  fr x h := by cases h
  lt x h := by cases h
  cl j h := by
    exfalso
    simp only [rs0, List.getD_eq_getElem?_getD] at h
    cases hq : (List.replicate 10 false)[j]? with
    | none => rw [hq] at h; cases h
    | some b => have := List.mem_of_getElem? hq; simp at this; rw [hq, this] at h; cases h
  g := by decide
  ns k d h := by simp [rs0] at h
  tr := ⟨fun _ => .empty, fun k h => by simp [rs0] at h, by simp [seqSz]⟩
theorem parF_wf (h : parF s last = .ok (i, r')) : Wf r' [i] ∧ r'.nds.length ≤ 400 := by
  unfold parF patF at h
  split at h
  · cases h
  · split at h
    · cases h
    · rename_i i1 t1 r1 hb
      split at h
      · cases h
      · split at h
        · cases h
        · rename_i h4
          cases h
          exact ⟨(brsF_got _ _ [] _ _ _ wf0 hb).wf, by omega⟩
end
end Go.Proofs.YtmghdogoeehodaaGreatDoor
/- What is read is sound, and a tree. -/
namespace Go.Proofs.YtmghdogoeehodaaGreatDoor
set_option linter.unusedVariables false
set_option linter.unusedSimpArgs false
theorem nodup_len : ∀ (n : Nat) (l : List Nat), l.Nodup → (∀ x ∈ l, x < n) → l.length ≤ n
  | 0, l, _, h => by
    cases l with
    | nil => simp
    | cons a l => have := h a (by simp); omega
  | n + 1, l, hd, h => by
    by_cases hn : n ∈ l
    · have h1 := nodup_len n (l.erase n) (hd.erase n) (fun x hx => by
        have hx' := (hd.mem_erase_iff).1 hx
        have := h x hx'.2
        have := hx'.1
        omega)
      have h2 := List.length_erase_of_mem hn
      omega
    · have := nodup_len n l hd (fun x hx => by
        have h1 := h x hx
        have h2 : x ≠ n := fun e => hn (e ▸ hx)
        omega)
      omega
section
variable {r : RS} {A : List Nat} {i : Nat}
theorem node_q {nds : List Nd} {k : Nat} {d : Nd} (h : nds[k]? = some d) : nodeAt (nds.map Nd.q) (k : Int) = d.q ∧ hasB (nds.map Nd.q) (k : Int) = true := by
  have hl := (List.getElem?_eq_some_iff.1 h).1
  refine ⟨by unfold nodeAt; rw [Int.toNat_natCast, List.getElem?_map, h]; rfl, decide_eq_true ⟨by omega, by rw [List.length_map]; omega⟩⟩
theorem bytes_q {nds : List Nd} : ∀ ks : List Nat, (∀ x ∈ ks, ∃ e, nds[x]? = some e ∧ e.op = 2) → bytesB (nds.map Nd.q) (ks.map fun (k : Nat) => (k : Int)) = true
  | [], _ => rfl
  | k :: ks, h => by
    obtain ⟨e, h1, h2⟩ := h k (by simp)
    obtain ⟨q1, q2⟩ := node_q h1
    rw [List.map_cons, bytesB, q1, q2, bytes_q ks fun x hx => h x (by simp [hx])]
    have : e.q.op = 2 := h2
    simp [this]
theorem Wf.fit (h : Wf r A) {k : Nat} {d : Nd} (hd : r.nds[k]? = some d) : fitB (r.nds.map Nd.q) (r.g : Int) d.q = true := by
  have hl : d.q.kids.length = d.kids.length := by simp [Nd.q]
  have eop : d.q.op = d.op := rfl
  have en : d.q.n = (d.n : Int) := rfl
  have hkl := h.kl k d hd
  have hkk := (List.getElem?_eq_some_iff.1 hd).1
  unfold fitB
  rw [eop, hl, en]
  rcases h.sh k d hd with ⟨h1, h2⟩ | ⟨h1, h2⟩ | ⟨h1, h2⟩ | ⟨h1, x, h2⟩ | ⟨h1, x, h2, hb, hr, hp⟩
  · rw [if_pos h1, h2]; rfl
  · rw [if_neg (by rcases h1 with h1 | h1 <;> rw [h1] <;> decide), if_pos h1]
    exact decide_eq_true h2
  · have hn := h.ns k d hd (.inr h1)
    rw [h1, if_neg (by decide), if_neg (by omega), if_pos rfl, h2]
    simp [isG]; omega
  · have hn := h.ns k d hd (.inl h1)
    rw [h1, if_neg (by decide), if_neg (by omega), if_neg (by omega), if_pos rfl, h2]
    simp [isG]; omega
  · rw [h1, if_neg (by decide), if_neg (by omega), if_neg (by omega), if_neg (by omega), if_pos rfl, h2]
    have eh : d.q.kids.headD 0 = (x : Int) := by simp [Nd.q, h2]
    have hx : x < r.nds.length := by have := hkl x (by rw [h2]; simp); omega
    obtain ⟨e, he⟩ : ∃ e, r.nds[x]? = some e := ⟨_, List.getElem?_eq_getElem hx⟩
    obtain ⟨q1, q2⟩ := node_q he
    have hre : repB e.op = true := by unfold opA at hr; rw [he] at hr; exact hr
    rw [eh]
    unfold mayB timesB
    rw [q1, q2]
    have e1 : d.q.mn = d.mn := rfl
    have e2 : d.q.mx = d.mx := rfl
    have e3 : e.q.op = e.op := rfl
    have e4 : e.q.kids = e.kids.map fun (k : Nat) => (k : Int) := rfl
    rw [e1, e2, e3, e4, hre]
    have hbb : (!(e.op == 5) || bytesB (r.nds.map Nd.q) (e.kids.map fun (k : Nat) => (k : Int))) = true := by
      by_cases h5 : e.op = 5
      · rw [bytes_q e.kids (hp e he h5)]; simp
      · simp [h5]
    rw [hbb, decide_eq_true hb]
    rfl
theorem Wf.tree (h : Wf r A) : ∀ (f : Nat) (ns : List Nat) (asked : List Bool), asked.length = r.nds.length → asked.count false < f → ns.Nodup → (∀ x ∈ ns, asked[x]? = some false) →
    (∀ x ∈ ns, ∀ (k : Nat) (d : Nd), r.nds[k]? = some d → asked[k]? = some false → x ∉ d.kids) → (∀ (k : Nat) (d : Nd), r.nds[k]? = some d → asked[k]? = some false → ∀ x ∈ d.kids, asked[x]? = some false) →
    treeF (r.nds.map Nd.q) (r.g : Int) f (ns.map fun (k : Nat) => (k : Int)) asked = true
  | 0, ns, asked, _, hc, _, _, _, _ => by omega
  | f + 1, ns, asked, hl, hc, hnd, hun, hfr, hkid => by
    rw [treeF]
    cases hg : ns.getLast? with
    | none =>
      have : ns = [] := List.getLast?_eq_none_iff.1 hg
      subst this; rfl
    | some a =>
      obtain ⟨l, rfl⟩ := List.getLast?_eq_some_iff.1 hg
      have ha := hun a (by simp)
      have hal : a < r.nds.length := by rw [← hl]; exact (List.getElem?_eq_some_iff.1 ha).1
      obtain ⟨d, hd⟩ : ∃ d, r.nds[a]? = some d := ⟨_, List.getElem?_eq_getElem hal⟩
      obtain ⟨q1, q2⟩ := node_q hd
      have hgd : asked.getD a false = false := by rw [List.getD_eq_getElem?_getD, ha]; rfl
      have hnd' := List.nodup_append.1 hnd
      have hkl := h.kl a d hd
      simp only [List.map_append, List.map_cons, List.map_nil, List.getLast?_concat, List.dropLast_concat, q1, q2, Int.toNat_natCast, hgd, h.fit hd, Bool.not_false, Bool.and_self, if_true]
      have e4 : d.q.kids = d.kids.map fun (k : Nat) => (k : Int) := rfl
      rw [e4, ← List.map_append]
      have hset : ∀ x, x ≠ a → (asked.set a true)[x]? = asked[x]? := fun x hx => List.getElem?_set_ne (fun e => hx e.symm)
      have hcount := count_set ha
      have hun' : ∀ k, (asked.set a true)[k]? = some false → k ≠ a ∧ asked[k]? = some false := fun k hk => by
        by_cases e : k = a
        · subst e
          rw [List.getElem?_set_self (by omega)] at hk
          cases hk
        · rw [hset k e] at hk; exact ⟨e, hk⟩
      refine Wf.tree h f (l ++ d.kids) (asked.set a true) (by rw [List.length_set]; exact hl) (by omega) ?_ ?_ ?_ ?_
      · refine List.nodup_append.2 ⟨hnd'.1, h.kn a d hd, fun x hx y hy e => ?_⟩
        subst e
        exact hfr x (by simp [hx]) a d hd ha hy
      · intro x hx
        rw [List.mem_append] at hx
        rcases hx with hx | hx
        · rw [hset x (fun e => hnd'.2.2 x hx a (by simp) e)]
          exact hun x (by simp [hx])
        · rw [hset x (by have := hkl x hx; omega)]
          exact hkid a d hd ha x hx
      · intro x hx k e he hk hc
        obtain ⟨k1, k2⟩ := hun' k hk
        rw [List.mem_append] at hx
        rcases hx with hx | hx
        · exact hfr x (by simp [hx]) k e he k2 hc
        · exact k1 (h.own k a e d x he hd hc hx)
      · intro k e he hk x hx
        obtain ⟨k1, k2⟩ := hun' k hk
        rw [hset x (fun q => hfr a (by simp) k e he k2 (q ▸ hx))]
        exact hkid k e he k2 x hx
theorem Wf.sound (h : Wf r [i]) : soundF (r.nds.map Nd.q) (i : Int) (r.g : Int) = true := by
  have hg := h.g
  have hi := h.lt i (by simp)
  unfold soundF
  rw [decide_eq_true ⟨by omega, by omega⟩, Bool.true_and, List.length_map]
  have hrep : ∀ x, x < r.nds.length → (List.replicate r.nds.length false)[x]? = some false := fun x hx => by simp [hx]
  refine h.tree (r.nds.length + 1) [i] (List.replicate r.nds.length false) (by simp) (by simp) (by simp) (fun x hx => ?_) (fun x hx k d hd _ => ?_) (fun k d hd _ x hx => ?_)
  · simp only [List.mem_singleton] at hx; subst hx; exact hrep x hi
  · exact h.fr x hx k d hd
  · have := h.kl k d hd x hx
    have := (List.getElem?_eq_some_iff.1 hd).1
    exact hrep x (by omega)
end
/-- All that is known of a text that is read. -/
theorem par_all {s last : ByteArray} {i gs cs : Nat} {nds : List Nd} (h : see (parF s last) = .ok (i, gs, cs, nds)) :
    ∃ t, soundF (nds.map Nd.q) (i : Int) (gs : Int) = true ∧ toT (nds.map Nd.q) (i + 1) (i : Int) = some t ∧ t.gd ∧ t.size ≤ 1200 ∧ nds.length ≤ 400 ∧ ∀ d ∈ nds.map Nd.q, d.kids.length ≤ 400 := by
  cases hp : parF s last with
  | error e => rw [hp] at h; cases e; cases h
  | ok x =>
    obtain ⟨j, r⟩ := x
    rw [hp] at h
    obtain ⟨hw, hl⟩ := parF_wf hp
    have h' : (Except.ok (j, r.g, r.cs, r.nds) : Except (Nat × Nat) (Nat × Nat × Nat × List Nd)) = .ok (i, gs, cs, nds) := h
    injection h' with h'
    injection h' with e1 h'
    injection h' with e2 h'
    injection h' with e3 e4
    subst e1 e2 e3 e4
    obtain ⟨T, hT, hz⟩ := hw.tr
    have hj := hw.lt j (by simp)
    obtain ⟨g1, g2⟩ := hT j hj
    refine ⟨T j, hw.sound, g2 (j + 1) (by omega), g1, ?_, hl, fun d hd => ?_⟩
    · simp [seqSz] at hz; omega
    · obtain ⟨e, he, rfl⟩ := List.mem_map.1 hd
      obtain ⟨k, hk, hke⟩ := List.getElem_of_mem he
      have hk' : r.nds[k]? = some e := by rw [List.getElem?_eq_getElem hk, hke]
      have := nodup_len k e.kids (hw.kn k e hk') (hw.kl k e hk')
      simp only [Nd.q, List.length_map]
      omega
end Go.Proofs.YtmghdogoeehodaaGreatDoor
/- A fault has its number. -/
namespace Go.Proofs.YtmghdogoeehodaaGreatDoor
set_option linter.unusedVariables false
set_option linter.unusedSimpArgs false
def Nz (e : Nat × Nat) : Prop := e.1 = 30 ∨ e.1 = 31 ∨ e.1 = 32 ∨ e.1 = 33
section
variable {s last : ByteArray} {r r' : RS} {t : Tok} {i n : Nat} {ks : List Nat} {e : Nat × Nat}
theorem nz30 {p : Nat} {α : Type} (h : (.error (30, p) : Except (Nat × Nat) α) = .error e) : Nz e := by cases h; exact .inl rfl
theorem nz31 {p : Nat} {α : Type} (h : (.error (31, p) : Except (Nat × Nat) α) = .error e) : Nz e := by cases h; exact .inr (.inl rfl)
theorem nz32 {p : Nat} {α : Type} (h : (.error (32, p) : Except (Nat × Nat) α) = .error e) : Nz e := by cases h; exact .inr (.inr (.inl rfl))
theorem nz33 {p : Nat} {α : Type} (h : (.error (33, p) : Except (Nat × Nat) α) = .error e) : Nz e := by cases h; exact .inr (.inr (.inr rfl))
theorem next_err : ∀ (f k : Nat) (md : ByteArray) (cs : Nat), nextF s f k md cs = .error e → Nz e
  | 0, k, md, cs, h => nz30 h
  | f + 1, k, md, cs, h => by
    rw [nextF] at h
    split at h
    · exact nz30 h
    · split at h
      · split at h
        · exact next_err f _ _ _ h
        · cases h
      · cases h
theorem many_err (h : manyF s t ks r = .error e) : Nz e := by
  unfold manyF at h
  split at h
  · split at h
    · exact nz32 h
    · cases h
  · split at h
    · split at h
      · rename_i x hx
        cases h
        unfold timesF at hx
        split at hx
        · cases hx
        · split at hx
          · cases hx
          · split at hx
            · split at hx
              · exact nz32 hx
              · cases hx
            · cases hx
      · cases h
    · split at h
      · exact nz32 h
      · cases h
theorem letter_err (h : letterF s t r = .error e) : Nz e := by
  unfold letterF at h
  split at h
  · cases h
  split at h
  · cases h
  split at h
  · unfold edgeF at h
    split at h
    · cases h
    · split at h
      · cases h
      · exact nz30 h
  split at h
  · unfold backF at h
    split at h
    · cases h
    · exact nz31 h
  split at h
  · cases h
  · exact nz30 h
theorem piece_err {G : Tok → RS → Except (Nat × Nat) (Nat × RS)} {first : Bool} (hG : G t r = .error e → Nz e) (h : pieceF G s last t first r = .error e) : Nz e := by
  unfold pieceF at h
  split at h
  · unfold signF at h
    split at h
    · split at h <;> cases h
    split at h
    · unfold eolF at h
      split at h
      · rename_i x hx; cases h; exact next_err _ _ _ _ hx
      · split at h <;> cases h
    split at h
    · cases h
    split at h
    · cases h
    split at h
    · cases h
    split at h
    · cases h
    split at h
    · unfold setF at h
      split at h
      · rename_i x hx
        cases h
        unfold collF at hx
        split at hx
        · cases hx
        · split at hx
          · exact nz30 hx
          · cases hx
      · cases h
      · cases h
    split at h
    · exact hG h
    · cases h
  · split at h
    · exact letter_err h
    · cases h
theorem group_err {BR : RS → Except (Nat × Nat) (Nat × Tok × RS)} (hd : Gd s r) (hB : r.g ≠ 9 → BR { r with g := r.g + 1 } = .error e → Nz e) (h : groupF BR t r = .error e) : Nz e := by
  unfold groupF at h
  split at h
  · exact nz31 h
  · rename_i h9
    split at h
    · rename_i x hx; cases h; exact hB h9 hx
    · split at h
      · exact nz31 h
      · cases h
theorem br_err {P : Tok → Bool → RS → Except (Nat × Nat) (Nat × RS)} {g0 : Nat} (hP : ∀ t r ks i r', MdJ s g0 t r ks → P t ks.isEmpty r = .ok (i, r') → Aft s 0 0 r i r') (hE : ∀ t r ks e, MdJ s g0 t r ks → P t ks.isEmpty r = .error e → Nz e) :
    ∀ (f : Nat) (r : RS) (ks : List Nat), HdI s g0 r ks → s.size < r.k + f → brF P s f r ks = .error e → Nz e := by
  intro f
  induction f with
  | zero => intro r ks hI hf; have := hI.gd.sz; omega
  | succ f ih =>
    intro r ks hI hf h
    rw [brF] at h
    split at h
    · rename_i x hx; cases h; exact next_err _ _ _ _ hx
    · rename_i t1 k md cs hn
      split at h
      · cases h
      · rename_i he
        obtain ⟨j1, j2⟩ := mdJ_of hI hn (Bool.eq_false_iff.2 he)
        split at h
        · split at h
          · rename_i x hx; cases h; exact many_err hx
          · rename_i ks' r1 hm
            obtain ⟨q1, q2⟩ := hdI_many j1 hm
            simp only at q2
            exact ih _ _ q1 (by omega) h
        · split at h
          · rename_i x hx; cases h; exact hE _ _ _ _ j1 hx
          · rename_i i1 r1 hp
            have a := hP _ _ _ _ _ j1 hp
            have ak := a.k
            simp only at ak
            exact ih _ _ (hdI_piece j1 a) (by omega) h
theorem brs_err {F : RS → Except (Nat × Nat) (Nat × Tok × RS)} {g0 : Nat} (hF : ∀ r ks i t r', HdI s g0 r ks → F r = .ok (i, t, r') → Aft s 1 (room t) r i r' ∧ (t.kd ≠ 0 → r.k < r'.k)) (hE : ∀ r ks e, HdI s g0 r ks → F r = .error e → Nz e) :
    ∀ (f : Nat) (r : RS) (ks : List Nat), HdI s g0 r ks → s.size < r.k + f → brsL F f r ks = .error e → Nz e := by
  intro f
  induction f with
  | zero => intro r ks hI hf; have := hI.gd.sz; omega
  | succ f ih =>
    intro r ks hI hf h
    rw [brsL] at h
    split at h
    · rename_i x hx; cases h; exact hE _ _ _ hI hx
    · rename_i i1 t1 r1 h1
      obtain ⟨a, b⟩ := hF _ _ _ _ _ hI h1
      split at h
      · rename_i hc
        have e1 := a.nd
        have e2 := a.k
        have e3 := a.up
        have e4 := a.g
        have l0 := hI.len
        have g0' := hI.g0
        have hk := b (by omega)
        have er : room t1 = 4 := by unfold room; rw [if_neg (by omega)]
        rw [er] at e1
        refine ih _ _ (⟨⟨a.sz, by omega, a.cl, a.g9⟩, by simp; omega, fun p hp => ?_, by omega⟩ : HdI s g0 r1 (ks ++ [i1])) (by omega) h
        simp only [List.mem_append, List.mem_singleton] at hp
        rcases hp with hp | hp
        · have := hI.lt p hp; omega
        · rw [hp]; exact a.i
      · cases h
theorem brsF_err (hla : last.size ≤ 1100) : ∀ (n : Nat) (r : RS) (e : Nat × Nat), 9 - r.g < n → Gd s r → brsF s last n r = .error e → Nz e
  | 0, _, _, hn, _, _ => by omega
  | n + 1, r, e, hn, hd, h => by
    rw [brsF] at h
    have hPa : ∀ t r1 ks i r', MdJ s r.g t r1 ks → pieceF (groupF (brsF s last n)) s last t ks.isEmpty r1 = .ok (i, r') → Aft s 0 0 r1 i r' := fun t r1 ks i r' hJ hp =>
      pieceF_aft hla hJ.sz hJ.nd hJ.cl hJ.g (fun i5 r5 h5 => groupF_aft hJ.gd (fun r6 i6 t6 r7 h6 h7 => brsF_aft hla n r6 i6 t6 r7 h6 h7) h5) hp
    refine brs_err (g0 := r.g) (fun r1 ks i t r' hI hb => brF_aft hPa _ _ _ _ _ _ (⟨hI.gd, by simp, fun p hp => by simp at hp, hI.g0⟩ : HdI s r.g r1 []) hb) (fun r1 ks1 e1 hI h1 => ?_) _ _ _ hd.hd (by omega) h
    refine br_err hPa (fun t2 r2 ks2 e2 hJ h2 => ?_) _ _ _ (⟨hI.gd, by simp, fun p hp => by simp at hp, hI.g0⟩ : HdI s r.g r1 []) (by omega) h1
    refine piece_err (fun h3 => group_err hJ.gd (fun h9 h4 => ?_) h3) h2
    have hg := hJ.g
    have hg0 := hJ.g0
    have hgd := hJ.gd
    have hgd1 : Gd s { r2 with g := r2.g + 1 } := ⟨hgd.sz, hgd.nd, hgd.cl, by show r2.g + 1 ≤ 9; omega⟩
    exact brsF_err hla n { r2 with g := r2.g + 1 } e2 (by show 9 - (r2.g + 1) < n; omega) hgd1 h4
theorem parF_err (h : parF s last = .error e) : Nz e := by
  unfold parF at h
  split at h
  · exact nz33 h
  · rename_i hsz
    unfold patF at h
    split at h
    · rename_i x hx
      cases h
      exact brsF_err (by omega) 10 rs0 e (by decide) ⟨Nat.zero_le _, by simp [rs0], by simp [rs0], by simp [rs0]⟩ hx
    · split at h
      · exact nz31 h
      · split at h
        · exact nz33 h
        · cases h
theorem see_err (h : see (parF s last) = .error e) : Nz e := by
  cases hp : parF s last with
  | error x => rw [hp] at h; cases h; exact parF_err hp
  | ok x => rw [hp] at h; cases x; cases h
end
end Go.Proofs.YtmghdogoeehodaaGreatDoor
/- More of what is read: groups are counted, numbers fit, a fault's place lies in the text. -/
namespace Go.Proofs.YtmghdogoeehodaaGreatDoor
set_option linter.unusedVariables false
set_option linter.unusedSimpArgs false
def c8 (nds : List Nd) : Nat := nds.countP fun d => d.op == 8
def NdSm (d : Nd) : Prop := d.c < 256 ∧ d.set.ok ∧ (-1 ≤ d.mn ∧ d.mn ≤ 60) ∧ (-1 ≤ d.mx ∧ d.mx ≤ 60) ∧ (d.op = 8 ∨ d.op = 9 ∨ d.n = 0)
structure Sg (r r' : RS) : Prop where
  cnt : r'.g + c8 r.nds ≤ r.g + c8 r'.nds
  nok : (∀ d ∈ r.nds, NdSm d) → ∀ d ∈ r'.nds, NdSm d
theorem c8_append (a b : List Nd) : c8 (a ++ b) = c8 a + c8 b := by simp [c8]
section
variable {s last : ByteArray} {r r' r1 : RS} {t : Tok} {i n : Nat} {ks : List Nat}
theorem Sg.refl (r : RS) : Sg r r := ⟨Nat.le_refl _, fun h => h⟩
theorem Sg.trans (a : Sg r r1) (b : Sg r1 r') : Sg r r' := ⟨by have := a.cnt; have := b.cnt; omega, fun h => b.nok (a.nok h)⟩
theorem sg_add {d : Nd} (h : NdSm d) : Sg r (addN d r).2 := by
  refine ⟨by simp only [addN, c8_append]; omega, fun q x hx => ?_⟩
  simp only [addN, List.mem_append, List.mem_singleton] at hx
  rcases hx with hx | rfl
  · exact q x hx
  · exact h
theorem sg_of {d : Nd} (e : (.ok (addN d r) : Except (Nat × Nat) (Nat × RS)) = .ok (i, r')) (h : NdSm d) : Sg r r' := by
  injection e with e
  have := sg_add (r := r) h
  rw [e] at this
  exact this
theorem sm0 (o c : Nat) (hc : c < 256) : NdSm { op := o, c := c } := ⟨hc, ok_zero, by simp, by simp, .inr (.inr rfl)⟩
theorem smK (o : Nat) (ks : List Nat) : NdSm { op := o, kids := ks } := ⟨by simp, ok_zero, by simp, by simp, .inr (.inr rfl)⟩
theorem smS {q : S4} (h : q.ok) : NdSm { op := 4, set := q } := ⟨by simp, h, by simp, by simp, .inr (.inr rfl)⟩
theorem join_sg (op : Nat) : Sg r (joinF op ks r).2 := by
  match ks with
  | [] => exact sg_add (smK 1 [])
  | [x] => exact Sg.refl r
  | x :: y :: l => exact sg_add (smK op _)
theorem again_sg : Sg r (againF last r).2 := by
  unfold againF
  split
  · exact sg_add (smK 1 [])
  · refine Sg.trans (r1 := { r with nds := r.nds ++ bytesN last.data.toList }) ⟨by simp only [c8_append]; omega, fun q x hx => ?_⟩ (join_sg 5)
    simp only [List.mem_append] at hx
    rcases hx with hx | hx
    · exact q x hx
    · simp only [bytesN, List.mem_map] at hx
      obtain ⟨b, _, rfl⟩ := hx
      exact sm0 2 _ b.toNat_lt
theorem ctl_lt {c : Nat} (h : c < 256) : ctlC c < 256 := by unfold ctlC; repeat' split
                                                            all_goals omega
theorem letter_sg (hc : t.c < 256) (h : letterF s t r = .ok (i, r')) : Sg r r' := by
  unfold letterF at h
  split at h
  · exact sg_of h (sm0 2 _ (ctl_lt hc))
  split at h
  · exact sg_of h (smK 4 [])
  split at h
  · unfold edgeF at h
    split at h
    · exact ⟨(sg_of (r := { r with k := r.k + 1 }) h (smK 14 [])).cnt, (sg_of (r := { r with k := r.k + 1 }) h (smK 14 [])).nok⟩
    · split at h
      · exact ⟨(sg_of (r := { r with k := r.k + 1 }) h (smK 15 [])).cnt, (sg_of (r := { r with k := r.k + 1 }) h (smK 15 [])).nok⟩
      · cases h
  split at h
  · unfold backF at h
    split at h
    · exact sg_of h ⟨by simp, ok_zero, by simp, by simp, .inr (.inl rfl)⟩
    · cases h
  split at h
  · exact sg_of h (smS (ok_fold _ _ (by decide)))
  · cases h
theorem set_sg (hc : t.c < 256) (h : setF s t r = .ok (i, r')) : Sg r r' := by
  unfold setF at h
  split at h
  · cases h
  · rename_i r1 hq
    unfold collF at hq
    split at hq
    · cases hq; exact sg_of h (sm0 2 _ hc)
    · split at hq
      · cases hq
      · cases hq
  · rename_i q r1 hq
    unfold collF at hq
    split at hq
    · cases hq
    · rename_i q0 fl k2 hx
      split at hq
      · cases hq
      · cases hq
        have ok0 := (rdF_ok _ _ _ _ _ _ _ ok_zero hx).1
        have okq : (if pfx s r.k hat = true then notS q0 else q0).ok := by
          split
          · exact ok_not ok0
          · exact ok0
        have := sg_of (r := { r with k := k2 }) h (smS okq)
        exact ⟨this.cnt, this.nok⟩
theorem sign_sg {G : Tok → RS → Except (Nat × Nat) (Nat × RS)} {first : Bool} (hc : t.c < 256) (hG : ∀ i r', G t r = .ok (i, r') → Sg r r') (h : signF G s last t first r = .ok (i, r')) : Sg r r' := by
  unfold signF at h
  split at h
  · split at h
    · exact sg_of h (smK 10 [])
    · exact sg_of h (sm0 2 _ hc)
  split at h
  · unfold eolF at h
    split at h
    · cases h
    · split at h
      · exact sg_of h (smK 11 [])
      · exact sg_of h (sm0 2 _ hc)
  split at h
  · exact sg_of h (smK 3 [])
  split at h
  · exact sg_of h (smK 12 [])
  split at h
  · exact sg_of h (smK 13 [])
  split at h
  · injection h with h
    have := again_sg (last := last) (r := r)
    rw [h] at this
    exact this
  split at h
  · exact set_sg hc h
  split at h
  · exact hG _ _ h
  · exact sg_of h (sm0 2 _ hc)
theorem piece_sg {G : Tok → RS → Except (Nat × Nat) (Nat × RS)} {first : Bool} (hc : t.c < 256) (hG : ∀ i r', G t r = .ok (i, r') → Sg r r') (h : pieceF G s last t first r = .ok (i, r')) : Sg r r' := by
  unfold pieceF at h
  split at h
  · exact sign_sg hc hG h
  · split at h
    · exact letter_sg hc h
    · exact sg_of h (sm0 2 _ hc)
theorem group_sg {BR : RS → Except (Nat × Nat) (Nat × Tok × RS)} (hB : ∀ r1 i t r2, BR r1 = .ok (i, t, r2) → Sg r1 r2) (h : groupF BR t r = .ok (i, r')) : Sg r r' := by
  unfold groupF at h
  split at h
  · cases h
  · split at h
    · cases h
    · rename_i kid en r1 h1
      have a := hB _ _ _ _ h1
      split at h
      · cases h
      · cases h
        have ac := a.cnt
        simp only at ac
        refine ⟨?_, fun q x hx => ?_⟩
        · simp only [addN, c8_append]
          have : c8 [({ op := 8, n := r.g + 1, kids := [kid] } : Nd)] = 1 := rfl
          omega
        · simp only [addN, List.mem_append, List.mem_singleton] at hx
          rcases hx with hx | rfl
          · exact a.nok q x hx
          · exact ⟨by simp, ok_zero, by simp, by simp, .inl rfl⟩
theorem many_sg {ks' : List Nat} (hc : t.c < 256) (h : manyF s t ks r = .ok (ks', r')) : Sg r r' := by
  have lit : ∀ {k2 : List Nat} {r2 : RS}, (.ok (ks ++ [r.nds.length], { r with nds := r.nds ++ [{ op := 2, c := t.c }] }) : Except (Nat × Nat) (List Nat × RS)) = .ok (k2, r2) → Sg r r2 := by
    intro k2 r2 e
    injection e with e
    injection e with e1 e2
    subst e1 e2
    exact sg_add (d := { op := 2, c := t.c }) (sm0 2 _ hc)
  unfold manyF at h
  split at h
  · split at h
    · cases h
    · exact lit h
  · rename_i p hl
    split at h
    · split at h
      · cases h
      · rename_i d r1 ht
        have hd : NdSm { d with kids := [p] } ∧ d.op ≠ 8 := by
          obtain ⟨d7, db⟩ := (times_b ht).1
          have hz : d.c = 0 ∧ d.set = zeroS ∧ d.n = 0 ∧ -1 ≤ d.mx := by
            unfold timesF at ht
            split at ht
            · cases ht; exact ⟨rfl, rfl, rfl, by decide⟩
            · split at ht
              · cases ht; exact ⟨rfl, rfl, rfl, by decide⟩
              · split at ht
                · split at ht
                  · cases ht
                  · rename_i n mx lz j hb
                    cases ht
                    refine ⟨rfl, rfl, rfl, ?_⟩
                    show -1 ≤ mx
                    unfold bndF at hb
                    split at hb
                    · cases hb
                    · split at hb
                      · split at hb
                        · cases hb
                        · obtain ⟨_, rfl, _⟩ := finF_b hb
                          split <;> omega
                      · obtain ⟨_, rfl, _⟩ := finF_b hb
                        split <;> omega
                · cases ht; exact ⟨rfl, rfl, rfl, by decide⟩
          exact ⟨⟨by show d.c < 256; omega, by show d.set.ok; rw [hz.2.1]; exact ok_zero, by show -1 ≤ d.mn ∧ d.mn ≤ 60; omega, by show -1 ≤ d.mx ∧ d.mx ≤ 60; omega, .inr (.inr hz.2.2.1)⟩, by omega⟩
        obtain ⟨_, k, rfl⟩ := times_b ht
        injection h with h
        injection h with e1 e2
        subst e1 e2
        have := sg_add (r := { r with k := k }) hd.1
        exact ⟨this.cnt, this.nok⟩
    · split at h
      · cases h
      · exact lit h
theorem br_sg {P : Tok → Bool → RS → Except (Nat × Nat) (Nat × RS)} (hP : ∀ t b r i r', t.c < 256 → P t b r = .ok (i, r') → Sg r r') :
    ∀ (f : Nat) (r : RS) (ks : List Nat) (i : Nat) (t : Tok) (r' : RS), brF P s f r ks = .ok (i, t, r') → Sg r r' := by
  intro f
  induction f with
  | zero => intro r ks i t r' h; simp [brF] at h
  | succ f ih =>
    intro r ks i t r' h
    rw [brF] at h
    split at h
    · cases h
    · rename_i t1 k md cs hn
      have hc := nextF_c hn
      split at h
      · cases h
        have := join_sg (r := { r with k := k, md := md, cs := cs }) (ks := ks) 5
        exact ⟨this.cnt, this.nok⟩
      · split at h
        · split at h
          · cases h
          · rename_i ks' r1 hm
            have a := many_sg hc hm
            exact Sg.trans ⟨a.cnt, a.nok⟩ (ih _ _ _ _ _ h)
        · split at h
          · cases h
          · rename_i i1 r1 hp1
            have a := hP _ _ _ _ _ hc hp1
            exact Sg.trans ⟨a.cnt, a.nok⟩ (ih _ _ _ _ _ h)
theorem brs_sg {F : RS → Except (Nat × Nat) (Nat × Tok × RS)} (hF : ∀ r i t r', F r = .ok (i, t, r') → Sg r r') :
    ∀ (f : Nat) (r : RS) (ks : List Nat) (i : Nat) (t : Tok) (r' : RS), brsL F f r ks = .ok (i, t, r') → Sg r r' := by
  intro f
  induction f with
  | zero => intro r ks i t r' h; simp [brsL] at h
  | succ f ih =>
    intro r ks i t r' h
    rw [brsL] at h
    split at h
    · cases h
    · rename_i i1 t1 r1 h1
      have a := hF _ _ _ _ h1
      split at h
      · exact a.trans (ih _ _ _ _ _ h)
      · cases h
        exact a.trans (join_sg 6)
theorem brsF_sg : ∀ (n : Nat) (r : RS) (i : Nat) (t : Tok) (r' : RS), brsF s last n r = .ok (i, t, r') → Sg r r'
  | 0, _, _, _, _, h => by cases h
  | n + 1, r, i, t, r', h => by
    rw [brsF] at h
    refine brs_sg (fun r1 i1 t1 r2 h2 => ?_) _ _ [] _ _ _ h
    refine br_sg (fun t3 b3 r3 i3 r4 hc h4 => ?_) _ _ [] _ _ _ h2
    exact piece_sg hc (fun i5 r5 h5 => group_sg (fun r6 i6 t6 r7 h7 => brsF_sg n r6 i6 t6 r7 h7) h5) h4
theorem parF_sg (h : parF s last = .ok (i, r')) : r'.g ≤ c8 r'.nds ∧ ∀ d ∈ r'.nds, NdSm d := by
  unfold parF patF at h
  split at h
  · cases h
  · split at h
    · cases h
    · rename_i i1 t1 r1 hb
      split at h
      · cases h
      · split at h
        · cases h
        · cases h
          have a := brsF_sg _ _ _ _ _ hb
          have ac := a.cnt
          simp [rs0, c8] at ac
          exact ⟨by simpa [c8] using ac, a.nok fun d hd => by simp [rs0] at hd⟩
end
end Go.Proofs.YtmghdogoeehodaaGreatDoor
