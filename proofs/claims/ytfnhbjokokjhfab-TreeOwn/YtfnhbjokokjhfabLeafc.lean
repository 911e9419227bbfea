/- The call changeIn at a node of the last level, whatever closure it is handed. -/
import Derived.Test.YtfnhbjokokjhfabHand2
namespace Go.Proofs.Ytfnhbjokokjhfab
open Go.ChangeShapes Go.WideShapes Go.ChangeAt Go.RowKit
section
variable {o : Own} {w : World} {t : Nat} {s : St} {vn vg : Value}
set_option maxHeartbeats 4000000 in
theorem changeLeaf (h : Rep o w t s vn vg) {at_ i : Nat} {n : Node} (hn : s.ns[at_]? = some n) (hk0 : n.kids = []) (f : FuncId) (caps : Array Value) {fn : Func} (l' : List ByteArray)
    (hf : Try.prog.funcs[f]? = some fn) (hnm : (fn.name == "runtime.NumGoroutine") = false) (hbd : fn.body.isNone = false)
    (hdo : ∀ W : World, W.heap = w.heap → Calls Try.prog f (#[n.vl, .int .i64 i] ++ caps) W fun e w' => ∃ v', e = .returned v' ∧ Turned o W (.lines at_) l' v' w') (hb1 : l'.length < 2 ^ 62) (hb2 : sizes l' < 2 ^ 62) :
    Calls Try.prog 39 #[.pointer (some ⟨t, 0, none⟩), .int .i64 at_, .int .i64 i, .func (.func f) #[] caps] w fun e w' => e = .returned (.tuple #[]) ∧ ∃ v', Did o w t (s.put at_ ⟨v', n.vk, l', [], l'.length, sizes l'⟩) w' := by
  have htop : at_ < s.ns.length := (List.getElem?_eq_some_iff.1 hn).1
  obtain ⟨b, cap, hvn, ho, h1, h2, hcc⟩ := h.nodeCells (by omega)
  clear hcc
  obtain ⟨a0, c0, c1, c2, c3, cf⟩ := h.cellsAt hn hvn
  have HL := last_any h hn
  rw [show decide (n.kids = []) = true by simp [hk0]] at HL
  obtain ⟨N, hN⟩ : ∃ N, s.ns.length = N := ⟨_, rfl⟩
  have HN : Hid (s.ns.length = N) := hN
  have GV : Hid (vn = .slice (some ⟨b, 0, none⟩) s.ns.length cap) := hvn
  rw [hvn, hN] at a0
  rw [hN] at htop h1
  have hbN : o b = .nodes := h.nodes.2 b (by rw [hvn]; rfl)
  have htb : b ≠ t := by intro e; rw [e, h.ot] at hbN; cases hbN
  have hbl : b < w.heap.size := h.lt b (by rw [hbN]; simp)
  have HC : Hid (∀ W : World, W.heap = w.heap → W.os = w.os → W.tape = w.tape → W.output = w.output → Calls Try.prog f (#[n.vl, .int .i64 i] ++ caps) W fun e w' =>
      ∃ x6 y6, e = .returned (.slice x6 l'.length y6) ∧ (∀ j, w'.cell? ⟨b, j, none⟩ = w.cell? ⟨b, j, none⟩ ∧ w'.frozen? ⟨b, j, none⟩ = false ∧ w'.cell? ⟨t, j, none⟩ = w.cell? ⟨t, j, none⟩) ∧
        ∃ o2, Rep o2 (w'.setCell ⟨b, at_ * 4, none⟩ (.slice x6 l'.length y6)) t (s.put at_ { n with vl := .slice x6 l'.length y6, lines := l' }) vn vg ∧ Keeps o o2 w (w'.setCell ⟨b, at_ * 4, none⟩ (.slice x6 l'.length y6))) := by
    intro W e1 e2 e3 e4
    refine (hdo W e1).mono ?_
    rintro e w' ⟨v', rfl, o2, hr2, kb2⟩
    obtain ⟨x6, y6, rfl, _, _⟩ := hr2.form
    have hr0 : Rep o W t s vn vg := h.heap e1
    have hb6 : w'.heap[b]? = w.heap[b]? := by rw [kb2.block b (by rw [e1]; exact hbl) (by rw [hbN]; simp), e1]
    have ht6 : w'.heap[t]? = w.heap[t]? := by rw [kb2.block t hr0.tlt (by rw [hr0.ot]; simp), e1]
    refine ⟨x6, y6, rfl, fun j => ⟨by simp [World.cell?, hb6], ?_, by simp [World.cell?, ht6]⟩, o2, ?_⟩
    · have : w'.frozen? ⟨b, j, none⟩ = w.frozen? ⟨b, j, none⟩ := by simp [World.frozen?, hb6]
      rw [this]; exact cf j
    · have x1 := (RepX.open_ hr0 (.lines at_)).kb kb2 (by simp) (by simp) (by simp)
      have x2 := x1.storeL (l := l') (.inl rfl) hn GV.out hr2
      have k0 : Keeps o o w W := ⟨e2, e3, e4, by rw [e1]; exact Nat.le_refl _, fun j _ _ => by rw [e1], fun _ _ hf => hf⟩
      exact ⟨x2, (k0.trans (kb2.keeps (by simp))).setCell (x2.ob GV.out)⟩
  have HW : Hid (∀ (W : World) o2 v, Rep o2 W t (s.put at_ { n with vl := v, lines := l' }) vn vg → Keeps o o2 w W → Calls Try.prog 45 #[.pointer (some ⟨t, 0, none⟩), .int .i64 at_] W fun e w' => e = .returned (.tuple #[]) ∧ Did o w t (s.put at_ ⟨v, n.vk, l', [], l'.length, sizes l'⟩) w') := by
    intro W o2 v hr2 hk2
    have hw := weigh_any hr2 (put_same _ (by rw [HN.out]; exact htop)) (fun c hc => by rw [show ({ n with vl := v, lines := l' } : Node).kids = [] from hk0] at hc; cases hc)
      (by show l'.length + (n.kids.map _).sum < _; rw [hk0]; simpa using hb1) (by show sizes l' + (n.kids.map _).sum < _; rw [hk0]; simpa using hb2)
    refine hw.mono ?_
    rintro e w' ⟨rfl, q1, q2⟩
    refine ⟨rfl, o2, vn, vg, ?_, hk2.trans q2⟩
    rw [put_put] at q1
    simpa [hk0] using q1
  clear h hn hvn hN c1 c2 c3 hdo hk0
  have rule : ∀ w', Tk t (.slice (some ⟨b, 0, none⟩) N cap) w' → w'.cell? ⟨t, 0, none⟩ = some (.slice (some ⟨b, 0, none⟩) N cap) := fun _ h => h
  unfold maxLen at h2
  go_enter Try.func39, Try.ntmps39
  go_wp2_with (go_at_call 29; refine HL.mono ?_; rintro e w1 ⟨rfl, rfl⟩)
  refine wp_region_noPanic ?_
  refine wp_region_held_drew (S := Tk t (.slice (some ⟨b, 0, none⟩) N cap)) (by kernel_rfl) (a0) (fun hHeld => ?_)
  refine takeAt 0 (some 13) ?_ rfl rfl (by kernel_rfl) (by kernel_rfl) (by kernel_rfl) (fun _ _ _ h => h) (Or.inl ⟨by rfl, ?_⟩) hHeld ?_
  rotate_left
  · intro w hSw
    go_simp <;> with_reducible rfl
  try simp only [Act.put, List.setIfInBounds_toArray, List.set_cons_zero, List.set_cons_succ]
  refine takeAt 1 (some 14) ?_ rfl rfl (by kernel_rfl) (by kernel_rfl) (by kernel_rfl) (fun _ _ _ h => h) (Or.inl ⟨by rfl, ?_⟩) hHeld ?_
  rotate_left
  · intro w hSw
    go_simp <;> with_reducible rfl
  try simp only [Act.put, List.setIfInBounds_toArray, List.set_cons_zero, List.set_cons_succ]
  refine takeAt 2 (some 15) ?_ rfl rfl (by kernel_rfl) (by kernel_rfl) (by kernel_rfl) (fun _ _ _ h => h) (Or.inl ⟨by rfl, ?_⟩) hHeld ?_
  rotate_left
  · intro w hSw
    go_simp <;> with_reducible rfl
  try simp only [Act.put, List.setIfInBounds_toArray, List.set_cons_zero, List.set_cons_succ]
  refine takeAt 3 (some 16) ?_ rfl rfl (by kernel_rfl) (by kernel_rfl) (by kernel_rfl) (fun _ _ _ h => h) (Or.inl ⟨by rfl, ?_⟩) hHeld ?_
  rotate_left
  · intro w hSw
    go_simp <;> with_reducible rfl
  try simp only [Act.put, List.setIfInBounds_toArray, List.set_cons_zero, List.set_cons_succ]
  refine takeAt 4 (some 17) ?_ rfl rfl (by kernel_rfl) (by kernel_rfl) (by kernel_rfl) (fun _ _ _ h => h) (Or.inl ⟨by rfl, ?_⟩) hHeld ?_
  rotate_left
  · intro w hSw
    go_simp <;> with_reducible rfl
  try simp only [Act.put, List.setIfInBounds_toArray, List.set_cons_zero, List.set_cons_succ]
  refine takeAt 5 (some 18) ?_ rfl rfl (by kernel_rfl) (by kernel_rfl) (by kernel_rfl) (fun _ _ _ h => h) (Or.inl ⟨by rfl, ?_⟩) hHeld ?_
  rotate_left
  · intro w hSw
    go_simp <;> with_reducible rfl
  try simp only [Act.put, List.setIfInBounds_toArray, List.set_cons_zero, List.set_cons_succ]
  refine takeAt 6 (some 19) ?_ rfl rfl (by kernel_rfl) (by kernel_rfl) (by kernel_rfl) (fun _ _ _ h => h) (Or.inl ⟨by rfl, ?_⟩) hHeld ?_
  rotate_left
  · intro w hSw
    go_simp <;> with_reducible rfl
  try simp only [Act.put, List.setIfInBounds_toArray, List.set_cons_zero, List.set_cons_succ]
  refine takeAt 7 (some 20) ?_ rfl rfl (by kernel_rfl) (by kernel_rfl) (by kernel_rfl) (fun _ _ _ h => h) (Or.inl ⟨by rfl, ?_⟩) hHeld ?_
  rotate_left
  · intro w hSw
    go_simp <;> with_reducible rfl
  try simp only [Act.put, List.setIfInBounds_toArray, List.set_cons_zero, List.set_cons_succ]
  refine takeAt 8 (some 21) ?_ rfl rfl (by kernel_rfl) (by kernel_rfl) (by kernel_rfl) (fun _ _ _ h => h) (Or.inl ⟨by rfl, ?_⟩) hHeld ?_
  rotate_left
  · intro w hSw
    go_simp <;> with_reducible rfl
  try simp only [Act.put, List.setIfInBounds_toArray, List.set_cons_zero, List.set_cons_succ]
  refine takeAt 9 (some 22) ?_ rfl rfl (by kernel_rfl) (by kernel_rfl) (by kernel_rfl) (fun _ _ _ h => h) (Or.inl ⟨by rfl, ?_⟩) hHeld ?_
  rotate_left
  · intro w hSw
    go_simp <;> with_reducible rfl
  try simp only [Act.put, List.setIfInBounds_toArray, List.set_cons_zero, List.set_cons_succ]
  refine takeAt 10 (some 23) ?_ rfl rfl (by kernel_rfl) (by kernel_rfl) (by kernel_rfl) (fun _ _ _ h => h) (Or.inl ⟨by rfl, ?_⟩) hHeld ?_
  rotate_left
  · intro w hSw
    go_simp <;> with_reducible rfl
  try simp only [Act.put, List.setIfInBounds_toArray, List.set_cons_zero, List.set_cons_succ]
  refine takeAt 11 (some 24) ?_ rfl rfl (by kernel_rfl) (by kernel_rfl) (by kernel_rfl) (fun _ _ _ h => h) (Or.inl ⟨by rfl, ?_⟩) hHeld ?_
  rotate_left
  · intro w hSw
    go_simp <;> with_reducible rfl
  try simp only [Act.put, List.setIfInBounds_toArray, List.set_cons_zero, List.set_cons_succ]
  refine takeAt 12 (some 25) ?_ rfl rfl (by kernel_rfl) (by kernel_rfl) (by kernel_rfl) (fun _ _ _ h => h) (Or.inl ⟨by rfl, ?_⟩) hHeld ?_
  rotate_left
  · intro w hSw
    go_simp <;> with_reducible rfl
  try simp only [Act.put, List.setIfInBounds_toArray, List.set_cons_zero, List.set_cons_succ]
  refine takeAt 14 (some 27) ?_ rfl rfl (by kernel_rfl) (by kernel_rfl) (by kernel_rfl) (fun _ _ _ h => h) (Or.inl ⟨by rfl, ?_⟩) hHeld ?_
  rotate_left
  · intro w hSw
    go_simp <;> with_reducible rfl
  try simp only [Act.put, List.setIfInBounds_toArray, List.set_cons_zero, List.set_cons_succ]
  refine wpAnyH_ready (rs := [13]) (by kernel_rfl) (by simp) ?_
  refine AllReadyH.cons rfl (fun K hK => ?_) AllReadyH.nil
  go_simp
  refine hK.out _ _ hHeld (fun hHeld => ?_)
  clear hK K
  try simp only [Act.put, List.setIfInBounds_toArray, List.set_cons_zero, List.set_cons_succ]
  refine callVal 15 28 (.tmp 18) f caps (vals := #[n.vl, .int .i64 i]) (by kernel_rfl) rfl rfl rfl rfl (by simp [Act.eval]) (by simp [Act.eval]) hf hnm hbd ?_
  refine (HC.out _ (by rfl) (by rfl) (by rfl) (by rfl)).mono ?_
  rintro e w6 ⟨x6, y6, rfl, p6, o6, h6, k6⟩
  refine ⟨_, rfl, show Tk _ _ _ from ((p6 0).2.2).trans a0, fun hHeld => ?_⟩
  have q2 := ((p6 (at_ * 4)).1).trans c0
  have q3 := (p6 (at_ * 4)).2.1
  clear p6
  try simp only [Act.put, List.setIfInBounds_toArray, List.set_cons_zero, List.set_cons_succ]
  refine takeAt 16 (some 29) ?_ rfl rfl (by kernel_rfl) (by kernel_rfl) (by kernel_rfl) (fun _ _ _ h => h) (Or.inl ⟨by rfl, ?_⟩) hHeld ?_
  rotate_left
  · intro w hSw
    go_simp <;> with_reducible rfl
  try simp only [Act.put, List.setIfInBounds_toArray, List.set_cons_zero, List.set_cons_succ]
  refine takeAt 17 (some 30) ?_ rfl rfl (by kernel_rfl) (by kernel_rfl) (by kernel_rfl) (fun _ _ _ h => h) (Or.inl ⟨by rfl, ?_⟩) hHeld ?_
  rotate_left
  · intro w hSw
    go_simp <;> with_reducible rfl
  try simp only [Act.put, List.setIfInBounds_toArray, List.set_cons_zero, List.set_cons_succ]
  refine wpAnyH_ready (rs := [18]) (by kernel_rfl) (by simp) ?_
  refine AllReadyH.cons rfl (fun K hK => ?_) AllReadyH.nil
  go_simp
  refine hK.out _ _ (show Tk _ _ _ from ?_) (fun hHeld => ?_)
  · exact (World.cell?_setCell_other _ _ _ _ (fun e => htb (by injection e))).trans hHeld
  clear hK K
  try simp only [Act.put, List.setIfInBounds_toArray, List.set_cons_zero, List.set_cons_succ]
  refine wpAnyH_done (by kernel_rfl) ?_ _
  refine NoPanic.normal ?_
  go_wp2_with fail
  refine (HW.out _ _ _ h6 k6).mono ?_
  rintro e w7 ⟨rfl, h7⟩
  go_wp2_with fail
  go_end0
  exact ⟨rfl, _, h7⟩
end
end Go.Proofs.Ytfnhbjokokjhfab
