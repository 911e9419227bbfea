/- Texts that the proof of the law stands on: VP, VQ, VR, VShelf, VS, VU, VV, VW, VT, VX, YT, YO. -/
import Derived.Test.YtomiblpgjkmmcaaPartB
import Derived.RangeFuncNested
import Derived.RangeFuncBound
import Derived.RangeFuncCalls
import Derived.RangeFuncLeaves
import Derived.RangeFuncWrites
import Derived.RangeFuncBox
import Derived.Sort.MapsRangeIn
import Derived.OwnWalkIn
import Derived.TacticsInMore
import Derived.RegionIn
import Derived.LoopNIn
import Derived.LoopIn
import Derived.Shelf.Abstract
import Derived.Ground.NamesProg
import Derived.Shelf.Sort.Plain
import Derived.Shelf.Slices.Turned
import Derived.Shelf.Slices.Reverse
import Derived.Shelf.Slices.In.SortNone
import Derived.Test.YtomiblpgjkmmcaaProg
import Derived.Sort.OwnSortedInts
import Derived.Test.YtomiblpgjkmmcaaPartA
import Derived.Test.YtomiblpgjkmmcaaRows
import Derived.Lib.SmallJoins
import Derived.OpenShut
import Derived.Deep.Slices
import Derived.Deep.Strs
/- Add, as long as there is room. -/
namespace Go.Proofs.Ytomiblpgjkmmcaa
open Go.ChangeShapes Go.WideShapes Go.ChangeAt Go.RowKit Go.Maps Go.MapKept
set_option linter.unusedVariables false
set_option linter.unusedSimpArgs false
set_option maxRecDepth 100000
theorem look_snoc {L : List St} {x : Int} (h : look L x = none) (fr on : Int) (ds : List Dl) (y : Int) : look (L ++ [⟨x, fr, on, ds⟩]) y = if y = x then some ⟨x, fr, on, ds⟩ else look L y := by
  rw [look_app]
  by_cases q : y = x
  · subst q; rw [h, if_pos rfl, look_cons, if_pos rfl]; rfl
  · rw [if_neg q, look_cons, if_neg (fun e => q e.symm)]
    cases look L y <;> rfl
section
variable {B C t b : Nat} {q : Int → Nat} {m : Tr} {w w1 : World}
/-- One state more. -/
theorem Tb.add (h : Tb B C t b q m w) {x fr : Int} (h0 : -9223372036854775808 ≤ x) (h1 : x < 9223372036854775808) (hx : look m.L x = none) {v : Value} {ds : List Dl} (hv : Dw 0 v ds w) {p : Nat} (hp : Lc 69 p [.int .i64 fr, .int .i64 (-1), v] w) (hB : B ≤ p) (hf : ∀ y, look m.L y ≠ none → q y ≠ p) :
    ∃ w', (Instr.mapUpdate 70 (.map (some b)) (.int .i64 x) (.pointer (some ⟨p, 0, none⟩))).run Try.prog w = .ok () w' ∧ Tb B w'.heap.size t b (fun y => if y = x then p else q y) { m with L := m.L ++ [⟨x, fr, -1, ds⟩] } w' ∧ Ff TP B w w' ∧ Fr (On b) w w' ∧ w'.heap.size = w.heap.size := by
  obtain ⟨w', hr, hm, f, hz⟩ := h.map.store h0 h1 Try.underlying70 (.pointer (some ⟨p, 0, none⟩))
  obtain ⟨es, cl, hmb, _⟩ := h.map
  refine ⟨w', hr, ⟨h.lt, h.lb, h.box.fr f (h.map.ne h.box), ?_, fun y s hy => ?_, fun y z hy hz e => ?_⟩, Ff.on f h.lb hmb trivial, f, hz⟩
  · have e : ptrs (m.L ++ [⟨x, fr, -1, ds⟩]) (fun y => if y = x then p else q y) = upd (ptrs m.L q) x (some (.pointer (some ⟨p, 0, none⟩))) := by
      funext y; unfold ptrs upd; rw [look_snoc hx]
      by_cases c : y = x
      · subst c; simp
      · simp [c]
    show Mp b (ptrs (m.L ++ [⟨x, fr, -1, ds⟩]) (fun y => if y = x then p else q y)) w'
    rw [e]; exact hm
  · have hy' : look (m.L ++ [⟨x, fr, -1, ds⟩]) y = some s := hy
    rw [look_snoc hx] at hy'
    by_cases c : y = x
    · rw [if_pos c] at hy'; cases hy'
      show Bx B w'.heap.size (if y = x then p else q y) _ _
      rw [if_pos c]
      refine Bx.sized (C := w.heap.size) (Bx.onMap ⟨hB, v, hp, hv, ?_⟩ f hmb)
      intro j hj
      obtain ⟨cs, r1, _⟩ := hv
      exact (r1.lt j hj).2
    · rw [if_neg c] at hy'
      show Bx B w'.heap.size (if y = x then p else q y) _ _
      rw [if_neg c]
      exact ((h.st y s hy').onMap f hmb).sized
  · have hy' : look (m.L ++ [⟨x, fr, -1, ds⟩]) y ≠ none := hy
    have hz' : look (m.L ++ [⟨x, fr, -1, ds⟩]) z ≠ none := hz
    rw [look_snoc hx] at hy' hz'
    replace e : (if y = x then p else q y) = (if z = x then p else q z) := e
    by_cases c : y = x
    · by_cases d : z = x
      · rw [c, d]
      · rw [if_neg d] at hz' e; rw [if_pos c] at e
        exact absurd e.symm (hf z hz')
    · rw [if_neg c] at hy' e
      by_cases d : z = x
      · rw [if_pos d] at e; exact absurd e (hf y hy')
      · rw [if_neg d] at hz' e; exact h.inj y z hy' hz' e
/-- How many. -/
theorem Tb.len (h : Tb B C t b q m w) (hn : (m.L.map St.seq).Nodup) (ty : TypeId) (z : World) (k : Kp w z) : (Builtin.len_ #[70] ty #[.map (some b)]).run Try.prog z = .ok (.int .i64 m.L.length) z := by
  obtain ⟨es, c, hb, S, H⟩ := h.map.kp k
  have e : es.size = m.L.length := by
    have hp : (es.toList.map (·.key)).Perm (m.L.map fun s => Value.int .i64 s.seq) := by
      refine (List.perm_ext_iff_of_nodup ?_ ?_).2 fun v => ?_
      · have := ((stamped_iff es c).1 S).2.2
        exact List.pairwise_map.2 this
      · have : (m.L.map fun s => Value.int .i64 s.seq) = (m.L.map St.seq).map (Value.int .i64) := by simp
        rw [this]
        exact List.pairwise_map.2 (hn.imp fun h e => h (by cases e; rfl))
      · rw [List.mem_map, List.mem_map]
        constructor
        · rintro ⟨a, ha, rfl⟩
          obtain ⟨x, hx, _, _, hv⟩ := H.on a ha
          unfold ptrs at hv
          obtain ⟨s, hs, _⟩ := Option.map_eq_some_iff.1 hv
          exact ⟨s, look_mem hs, by rw [hx, look_seq hs]⟩
        · rintro ⟨s, hs, rfl⟩
          have : look m.L s.seq ≠ none := by
            intro e
            have := List.find?_eq_none.1 e s hs
            simp at this
          obtain ⟨s', hs'⟩ := Option.ne_none_iff_exists'.1 this
          obtain ⟨a, ha, hk, _⟩ := H.at_ s.seq (.pointer (some ⟨q s.seq, 0, none⟩)) (by unfold ptrs; rw [hs']; rfl)
          exact ⟨a, ha, hk⟩
    have := hp.length_eq
    simpa using this
  simp [Builtin.len_, run_underlying Try.underlying70, MapKept.run_getObj_map hb, goInt, Result.andThen, e]
end
/-- Add: the states then, before any goes. -/
def addT (m : Tr) (ds : List Dl) : Tr := ⟨setOn m.L m.now m.next ++ [⟨m.next, m.now, -1, ds⟩], m.next, m.next + 1, m.most⟩
theorem on_snoc {L : List St} {x y : Int} (hxy : x ≠ y) (fr on : Int) (ds : List Dl) (z : Int) : setOn (L ++ [⟨y, fr, on, ds⟩]) x z = setOn L x z ++ [⟨y, fr, on, ds⟩] := by
  simp [setOn, Ne.symm hxy]
section
variable {B C t : Nat} {m : Tr} {w : World}
set_option maxHeartbeats 16000000 in
theorem add_few (h : Tw B C t m w) (F : Fam m.L m.next) (hn : m.next ≤ 10000) (hsq : (m.L.map St.seq).Nodup) (hw : look m.L m.now ≠ none) (hm : (m.L.length : Int) + 1 ≤ m.most) (hB : B ≤ w.heap.size)
    {P : Nat → Prop} {X : Xl} {D : Nat} (ok : Okx D X) {v : Value} {ds : List Dl} (hd : Dr P X v ds w) {N : Nat} (hf : Few N ds) (hN : N ≤ 2513169434916) :
    Calls Try.prog 12 #[.pointer (some ⟨t, 0, none⟩), v] w fun e w' => e = .returned (.int .i64 m.next) ∧ Tw B w'.heap.size t (addT m ds) w' ∧ Ff TP B w w' := by
  have hxn : look m.L m.next = none := by
    cases e : look m.L m.next with
    | none => rfl
    | some s => have := F.fr _ _ e; omega
  have hnw := F.rg (by omega) hw
  have hlt : m.now < m.next ∧ 0 ≤ m.next := by
    obtain ⟨s, hs⟩ := Option.ne_none_iff_exists'.1 hw
    have := F.fr _ _ hs; omega
  obtain ⟨b, q, h⟩ := h
  have c0 := h.box.at (j := 0) rfl
  have c1 := h.box.at (j := 1) rfl
  have c2 := h.box.at (j := 2) rfl
  have HC : Hid (∀ z, Kp w z → Calls Try.prog 31 #[v] z fun e w' => ∃ v', e = .returned v' ∧ Dw 0 v' ds w' ∧ Kp w w') := fun z k => (copies_any ok (hd.kp ok k) hf hN).mono (by rintro e w' ⟨v', rfl, q1, q2⟩; exact ⟨v', rfl, q1.zero, kp_trans k q2⟩)
  obtain ⟨a, n, c, rfl⟩ : ∃ a n c, v = .slice a n c := by obtain ⟨a, c, rfl, _⟩ := hd.form; exact ⟨a, _, c, rfl⟩
  -- what the map's store comes to
  have HS : Hid (∀ (v' : Value) (w3 : World), Dw 0 v' ds w3 → Kp w w3 → ∃ w5 q', (Instr.mapUpdate 70 (.map (some b)) (.int .i64 m.next) (.pointer (some ⟨w3.heap.size, 0, none⟩))).run Try.prog (w3.alloc (.cells #[.int .i64 m.now, .int .i64 (-1), v'] 69)) = .ok () w5 ∧ Tb B w5.heap.size t b q' { m with L := m.L ++ [⟨m.next, m.now, -1, ds⟩] } w5 ∧ Ff TP B w w5) := fun v' w3 d3 k3 => by
    have h4 := (h.kp k3).kp (kp_alloc w3 (.cells #[.int .i64 m.now, .int .i64 (-1), v'] 69))
    obtain ⟨w5, r1, r2, r3, _, _⟩ := h4.add (x := m.next) (fr := m.now) (by omega) (by omega) hxn (d3.kp (okRow _ _) (kp_alloc _ _)) (Lc.new w3 [.int .i64 m.now, .int .i64 (-1), v'] _) (Nat.le_trans hB k3.size) (fun y hy e => by
      obtain ⟨s, hs⟩ := Option.ne_none_iff_exists'.1 hy
      obtain ⟨_, u, hu, _⟩ := (h.kp k3).st y s hs
      have := hu.lt; omega)
    exact ⟨w5, _, r1, r2, (Ff.kp (kp_trans k3 (kp_alloc _ _))).trans r3⟩
  have HH : Hid (Fam m.L m.next ∧ (m.L.map St.seq).Nodup ∧ look m.L m.now ≠ none ∧ (m.L.length : Int) + 1 ≤ m.most ∧ look m.L m.next = none ∧ Lc 72 t [.map (some b), .int .i64 m.now, .int .i64 m.next, .int .i64 m.most] w) := ⟨F, hsq, hw, hm, hxn, h.box⟩
  clear h F hsq hw hm hxn hd hf ok
  go_enter Try.func12, Try.ntmps12
  go_upto_region 1 with fail
  refine wp_region_noPanic ?_
  refine wp_region_held_drew (S := fun z => z.cell? ⟨t, 0, none⟩ = some (.map (some b)) ∧ z.cell? ⟨t, 1, none⟩ = some (.int .i64 m.now) ∧ z.cell? ⟨t, 2, none⟩ = some (.int .i64 m.next)) (by kernel_rfl) (⟨c0, c1, c2⟩) (fun hHeld => ?_)
  refine takeAt 0 (some 5) ?_ rfl rfl (by kernel_rfl) (by kernel_rfl) (by kernel_rfl) (fun _ _ _ h => h) (Or.inl ⟨by rfl, ?_⟩) hHeld ?_
  rotate_left
  · intro w hSw
    go_simp <;> with_reducible rfl
  try simp only [Act.put, List.setIfInBounds_toArray, List.set_cons_zero, List.set_cons_succ]
  refine takeAt 1 (some 6) ?_ rfl rfl (by kernel_rfl) (by kernel_rfl) (by kernel_rfl) (fun _ _ _ h => h) (Or.inl ⟨by rfl, ?_⟩) hHeld ?_
  rotate_left
  · intro w hSw
    go_simp <;> with_reducible rfl
  try simp only [Act.put, List.setIfInBounds_toArray, List.set_cons_zero, List.set_cons_succ]
  refine takeAt 2 (some 7) ?_ rfl rfl (by kernel_rfl) (by kernel_rfl) (by kernel_rfl) (fun _ _ _ h => h) (Or.inl ⟨by rfl, ?_⟩) hHeld ?_
  rotate_left
  · intro w hSw
    go_simp <;> with_reducible rfl
  try simp only [Act.put, List.setIfInBounds_toArray, List.set_cons_zero, List.set_cons_succ]
  refine takeAt 3 (some 8) ?_ rfl rfl (by kernel_rfl) (by kernel_rfl) (by kernel_rfl) (fun _ _ _ h => h) (Or.inl ⟨by rfl, ?_⟩) hHeld ?_
  rotate_left
  · intro w hSw
    go_simp <;> with_reducible rfl
  try simp only [Act.put, List.setIfInBounds_toArray, List.set_cons_zero, List.set_cons_succ]
  refine takeAt 4 (some 9) ?_ rfl rfl (by kernel_rfl) (by kernel_rfl) (by kernel_rfl) (fun _ _ _ h => h) (Or.inl ⟨by rfl, ?_⟩) hHeld ?_
  rotate_left
  · intro w hSw
    go_simp <;> with_reducible rfl
  try simp only [Act.put, List.setIfInBounds_toArray, List.set_cons_zero, List.set_cons_succ]
  refine takeAt 5 (some 10) ?_ rfl rfl (by kernel_rfl) (by kernel_rfl) (by kernel_rfl) (fun _ _ _ h => h) (Or.inl ⟨by rfl, ?_⟩) hHeld ?_
  rotate_left
  · intro w hSw
    go_simp <;> with_reducible rfl
  try simp only [Act.put, List.setIfInBounds_toArray, List.set_cons_zero, List.set_cons_succ]
  refine takeAt 6 (some 11) ?_ rfl rfl (by kernel_rfl) (by kernel_rfl) (by kernel_rfl) (fun _ _ _ h => h) (Or.inl ⟨by rfl, ?_⟩) hHeld ?_
  rotate_left
  · intro w hSw
    go_simp <;> with_reducible rfl
  try simp only [Act.put, List.setIfInBounds_toArray, List.set_cons_zero, List.set_cons_succ]
  refine takeAt 7 (some 12) ?_ rfl rfl (by kernel_rfl) (by kernel_rfl) (by kernel_rfl) (fun _ _ _ h => h) (Or.inl ⟨by rfl, ?_⟩) hHeld ?_
  rotate_left
  · intro w hSw
    go_simp <;> with_reducible rfl
  try simp only [Act.put, List.setIfInBounds_toArray, List.set_cons_zero, List.set_cons_succ]
  refine takeAt 8 (some 13) ?_ rfl rfl (by kernel_rfl) (by kernel_rfl) (by kernel_rfl) (fun _ _ _ h => h) (Or.inl ⟨by rfl, ?_⟩) hHeld ?_
  rotate_left
  · intro w hSw
    go_simp <;> with_reducible rfl
  try simp only [Act.put, List.setIfInBounds_toArray, List.set_cons_zero, List.set_cons_succ]
  refine takeAt 9 (some 14) ?_ rfl rfl (by kernel_rfl) (by kernel_rfl) (by kernel_rfl) (fun _ _ _ h => h) (Or.inl ⟨by rfl, ?_⟩) hHeld ?_
  rotate_left
  · intro w hSw
    go_simp <;> with_reducible rfl
  try simp only [Act.put, List.setIfInBounds_toArray, List.set_cons_zero, List.set_cons_succ]
  refine takeAt 10 (some 15) ?_ rfl rfl (by kernel_rfl) (by kernel_rfl) (by kernel_rfl) (fun _ _ _ h => h) (Or.inl ⟨by rfl, ?_⟩) hHeld ?_
  rotate_left
  · intro w hSw
    go_simp <;> with_reducible rfl
  try simp only [Act.put, List.setIfInBounds_toArray, List.set_cons_zero, List.set_cons_succ]
  refine takeAt 11 (some 16) ?_ rfl rfl (by kernel_rfl) (by kernel_rfl) (by kernel_rfl) (fun _ _ _ h => h) (Or.inl ⟨by rfl, ?_⟩) hHeld ?_
  rotate_left
  · intro w hSw
    go_simp <;> with_reducible rfl
  try simp only [Act.put, List.setIfInBounds_toArray, List.set_cons_zero, List.set_cons_succ]
  refine takeAt 12 (some 17) ?_ rfl rfl (by kernel_rfl) (by kernel_rfl) (by kernel_rfl) (fun _ _ _ h => h) (Or.inl ⟨by rfl, ?_⟩) hHeld ?_
  rotate_left
  · intro w hSw
    go_simp <;> with_reducible rfl
  try simp only [Act.put, List.setIfInBounds_toArray, List.set_cons_zero, List.set_cons_succ]
  refine callAt 13 18 31 (vals := #[.slice a n c]) (by kernel_rfl) rfl rfl rfl rfl (by simp [Act.eval]) Try.func31 (by kernel_rfl) (by kernel_rfl) ?_
  refine Calls.mono (HC.out _ (by first | exact Below.refl _ _ | exact kp_drew _)) ?_
  rintro e w3 ⟨v', rfl, d3, k3⟩
  obtain ⟨w5, q', hr5, t5, f5⟩ := HS.out v' w3 d3 k3
  obtain ⟨a', n', c', rfl⟩ : ∃ a' n' c', v' = .slice a' n' c' := by obtain ⟨a', c', rfl, _⟩ := d3.form; exact ⟨a', _, c', rfl⟩
  have H5 : Hid (Tb B w5.heap.size t b q' { m with L := m.L ++ [⟨m.next, m.now, -1, ds⟩] } w5 ∧ Ff TP B w w5) := ⟨t5, f5⟩
  have K3 : Hid (Kp w w3) := k3
  clear d3 k3 t5 f5 HC HS
  refine ⟨_, rfl, ⟨kp_cell K3.out c0, kp_cell K3.out c1, kp_cell K3.out c2⟩, fun hHeld => ?_⟩
  try simp only [Act.put, List.setIfInBounds_toArray, List.set_cons_zero, List.set_cons_succ]
  refine takeAt 14 (some 19) ?_ rfl rfl (by kernel_rfl) (by kernel_rfl) (by kernel_rfl) (fun _ _ _ h => h) (Or.inl ⟨by rfl, ?_⟩) hHeld ?_
  rotate_left
  · intro w hSw
    go_simp <;> with_reducible rfl
  try simp only [Act.put, List.setIfInBounds_toArray, List.set_cons_zero, List.set_cons_succ]
  refine wpAnyH_ready (rs := [15]) (by kernel_rfl) (by simp) ?_
  refine AllReadyH.cons rfl (fun K hK => ?_) AllReadyH.nil
  go_simp
  refine hK.out _ _ (⟨kp_cell (kp_alloc _ _) hHeld.1, kp_cell (kp_alloc _ _) hHeld.2.1, kp_cell (kp_alloc _ _) hHeld.2.2⟩) (fun hHeld => ?_)
  clear hK K
  try simp only [Act.put, List.setIfInBounds_toArray, List.set_cons_zero, List.set_cons_succ]
  refine wpAnyH_ready (rs := [16]) (by kernel_rfl) (by simp) ?_
  refine AllReadyH.cons rfl (fun K hK => ?_) AllReadyH.nil
  go_simp
  refine hK.out _ _ (⟨H5.out.1.box.at (j := 0) rfl, H5.out.1.box.at (j := 1) rfl, H5.out.1.box.at (j := 2) rfl⟩) (fun hHeld => ?_)
  clear hK K
  try simp only [Act.put, List.setIfInBounds_toArray, List.set_cons_zero, List.set_cons_succ]
  clear hr5 c0 c1 c2
  refine wpAnyH_done (by kernel_rfl) ?_ _
  refine NoPanic.normal ?_
  go_upto_region 2 with fail
  have f2 : Hid (look (m.L ++ [⟨m.next, m.now, -1, ds⟩]) m.now ≠ none ∧ m.now ≠ m.next) := ⟨by rw [look_snoc HH.out.2.2.2.2.1, if_neg (by omega)]; exact HH.out.2.2.1, by omega⟩
  obtain ⟨s0, hs0⟩ := Option.ne_none_iff_exists'.1 f2.out.1
  have c0 := H5.out.1.box.at (j := 0) rfl
  have c1 := H5.out.1.box.at (j := 1) rfl
  have c2 := H5.out.1.box.at (j := 2) rfl
  have hlk := H5.out.1.get (by omega) (by omega) hs0
  have hl1 := hlk w5 (Below.refl _ _)
  have hl2 := hlk w5.drew (kp_drew _)
  obtain ⟨_, u0, hu0, _⟩ := H5.out.1.st _ _ hs0
  have g1 := hu0.fz 1
  have g0 := hu0.at (j := 1) rfl
  obtain ⟨W6, hW6⟩ : ∃ W6, (w5.setCell ⟨q' m.now, 1, none⟩ (.int .i64 m.next)).drew = W6 := ⟨_, rfl⟩
  have H6 : Hid (Tb B w5.heap.size t b q' { m with L := setOn m.L m.now m.next ++ [⟨m.next, m.now, -1, ds⟩] } W6 ∧ Ff TP B w W6) := by
    obtain ⟨r1, r2⟩ := H5.out.1.on f2.out.1 m.next
    rw [← hW6]
    refine ⟨?_, (H5.out.2.trans r2).trans (Ff.kp (kp_drew _))⟩
    have := r1.kp (kp_drew _)
    rw [on_snoc f2.out.2] at this
    exact this
  have HW6 : Hid (_ = W6) := hW6
  clear hlk hs0 hu0 hW6
  go_region
  rw [HW6.out]
  clear HW6 c0 c1 c2 hl1 hl2 g0 g1
  have c2 := H6.out.1.box.at (j := 2) rfl
  have g1 := H6.out.1.box.fz 1
  have c1 := H6.out.1.box.at (j := 1) rfl
  have g2 := H6.out.1.box.fz 2
  have H7 : Hid (Tw B ((W6.setCell ⟨t, 1, none⟩ (.int .i64 m.next)).setCell ⟨t, 2, none⟩ (.int .i64 (m.next + 1))).heap.size t (addT m ds) ((W6.setCell ⟨t, 1, none⟩ (.int .i64 m.next)).setCell ⟨t, 2, none⟩ (.int .i64 (m.next + 1))) ∧ Ff TP B w ((W6.setCell ⟨t, 1, none⟩ (.int .i64 m.next)).setCell ⟨t, 2, none⟩ (.int .i64 (m.next + 1)))) := by
    obtain ⟨r1, r2⟩ := H6.out.1.now m.next
    obtain ⟨r3, r4⟩ := r1.nxt (m.next + 1)
    exact ⟨Tw.sized ⟨b, q', r3⟩, (H6.out.2.trans r2).trans r4⟩
  go_wp2_with fail
  generalize hW7 : (W6.setCell ⟨t, 1, none⟩ (.int .i64 m.next)).setCell ⟨t, 2, none⟩ (.int .i64 (m.next + 1)) = W7 at H7 ⊢
  have HN : Hid (((addT m ds).L.map St.seq).Nodup ∧ ((addT m ds).L.length : Int) ≤ m.most) := by
    constructor
    · show ((setOn m.L m.now m.next ++ [_]).map St.seq).Nodup
      rw [List.map_append, setOn_seq, List.map_singleton, List.nodup_append]
      refine ⟨HH.out.2.1, by simp, fun x hx y hy => ?_⟩
      simp only [List.mem_singleton] at hy
      subst hy
      obtain ⟨s, hs, rfl⟩ := List.mem_map.1 hx
      intro e
      have := List.find?_eq_none.1 HH.out.2.2.2.2.1 s hs
      simp [e] at this
    · show ((setOn m.L m.now m.next ++ [_]).length : Int) ≤ _
      rw [List.length_append, setOn_len, List.length_singleton]
      have := HH.out.2.2.2.1; omega
  obtain ⟨b7, q7, t7⟩ := H7.out.1
  have c0 := t7.box.at (j := 0) rfl
  have c1' : W7.cell? ⟨t, 1, none⟩ = some (.int .i64 m.next) := t7.box.at (j := 1) rfl
  have c3 : W7.cell? ⟨t, 3, none⟩ = some (.int .i64 m.most) := t7.box.at (j := 3) rfl
  have hln := fun ty k => t7.len HN.out.1 ty (W7.drewN k) (kp_drewN _ k)
  have d1 : decide (((addT m ds).L.length : Int) > m.most) = false := decide_eq_false (by have := HN.out.2; omega)
  have d2 : decide (m.most < ((addT m ds).L.length : Int)) = false := decide_eq_false (by have := HN.out.2; omega)
  generalize (addT m ds).L.length = K7 at hln d1 d2
  clear hW7 t7 c1 c2 g1 g2
  go_loopw [] (fun wr => wr = W7) (fun _ => 0)
  case atStart => rfl
  case round =>
    subst hrel
    go_wp2_with fail
    go_quiet (fail)
    go_wp2_with fail
    go_ret
    exact ⟨rfl, (Tw.kp H7.out.1 (kp_drewN _ _)).sized, H7.out.2.trans (Ff.kp (kp_drewN _ _))⟩
end
end Go.Proofs.Ytomiblpgjkmmcaa
/- The keys of a map, one by one; gathered in a list. -/
namespace Go.Proofs.Ytomiblpgjkmmcaa
open Go.ChangeShapes Go.WideShapes Go.ChangeAt Go.RowKit Go.Maps Go.MapKept Go.Shelf
set_option linter.unusedVariables false
set_option linter.unusedSimpArgs false
attribute [local go_sem] Oper.semAt_some
section
variable {F : Fence} {n : Nat} {b r c : Nat} {m : Int → Option Value} {left : Int → Bool} {w : World} {ops : Array Oper} {rest : List Oper} {o : Oper} {a : Act} {Q : Exit → Act → World → Prop}
theorem wpli_range (hg : o.guard = none) (x : Operand) (T E : TypeId) (hop : o.op = Op.range T x) (ht : Try.prog.underlying T = some (.map 3 E)) (hm : a.eval x = .map (some b)) (h : Mp b m w)
    (hK : ∀ w' c, Rgg b w.heap.size m (fun x => (m x).isSome) c w' → w.grownBy w' none → w'.heap.size = w.heap.size + 1 → wpListIn F n Try.prog ops Q rest (a.put o.dst (.pointer (some ⟨w.heap.size, 0, none⟩))) w') :
    wpListIn F n Try.prog ops Q (o :: rest) a w := by
  refine wpListIn_plain hg fun K' hK' => ?_
  obtain ⟨w', c, hrun, r1, r2, r3⟩ := h.ranged ht
  unfold Oper.wpIn
  refine ⟨by simp [Oper.about, hop], ?_⟩
  rw [Oper.semAt_plain F _ _ (by rw [hop]; intro c hc'; cases hc')]
  simp [execOp, hop, hm, hrun, Result.andThen]
  exact hK' _ _ (hK w' c r1 ⟨r2.os, r2.tape, r2.output, r2.size, fun i hi _ => r2.block i hi⟩ r3)
theorem wpli_next (hg : o.guard = none) (x : Operand) (hop : o.op = Op.next x false) (hm : a.eval x = .pointer (some ⟨r, 0, none⟩)) (h : Rgg b r m left c w)
    (h0 : (∀ y, left y = false) → wpListIn F n Try.prog ops Q rest (a.put o.dst (.tuple #[.bool false])) w)
    (h1 : ∀ y v w' c', -9223372036854775808 ≤ y → y < 9223372036854775808 → left y = true → m y = some v → Rgg b r m (fun z => left z && !decide (z = y)) c' w' → c' < c → w.grownBy w' (some r) → w'.heap.size = w.heap.size →
      (Instr.entry (.pointer (some ⟨r, 0, none⟩))).run Try.prog w' = .ok (.tuple #[.int .i64 y, v]) w' → wpListIn F n Try.prog ops Q rest (a.put o.dst (.tuple #[.bool true, .int .i64 y, v])) w') :
    wpListIn F n Try.prog ops Q (o :: rest) a w := by
  refine wpListIn_plain hg fun K' hK' => ?_
  unfold Oper.wpIn
  refine ⟨by simp [Oper.about, hop], ?_⟩
  rw [Oper.semAt_plain F _ _ (by rw [hop]; intro c hc'; cases hc')]
  rcases h.next o.type with ⟨h2, hrun⟩ | ⟨y, v, w', c', q1, q2, q3, q4, hrun, q5, q6, q7, q8, q9⟩
  · simp [execOp, hop, hm, hrun, Result.andThen]
    exact hK' _ _ (h0 h2)
  · simp [execOp, hop, hm, hrun, Result.andThen]
    exact hK' _ _ (h1 y v w' c' q1 q2 q3 q4 q5 q6 ⟨q7.os, q7.tape, q7.output, q7.size, fun i hi hne => q7.block i hi fun e => hne (by unfold On at e; rw [e])⟩ q8 q9)
end
/-- Keys that have come: each once, all but those that are left. -/
def Cld (f : Int → Option Value) (left : Int → Bool) (ss : List Int) : Prop := ss.Nodup ∧ ∀ x, x ∈ ss ↔ (f x ≠ none ∧ left x = false)
/-- All keys, each once. -/
def Kys (f : Int → Option Value) (ss : List Int) : Prop := ss.Nodup ∧ ∀ x, x ∈ ss ↔ f x ≠ none
section
variable {b r c : Nat} {f : Int → Option Value} {left : Int → Bool} {w w1 : World} {ss : List Int}
theorem Cld.start (f : Int → Option Value) : Cld f (fun x => (f x).isSome) [] := by
  refine ⟨List.nodup_nil, fun x => ?_⟩
  cases q : f x <;> simp [q]
theorem Cld.step (h : Cld f left ss) {y : Int} (hy : left y = true) (hf : f y ≠ none) : Cld f (fun z => left z && !decide (z = y)) (ss ++ [y]) := by
  refine ⟨List.nodup_append.2 ⟨h.1, by simp, fun a ha b hb => ?_⟩, fun x => ?_⟩
  · rw [List.mem_singleton] at hb; subst hb
    rintro rfl
    rw [((h.2 a).1 ha).2] at hy; cases hy
  · rw [List.mem_append, List.mem_singleton, h.2 x]
    by_cases q : x = y
    · subst q; simp [hf]
    · simp [q]
theorem Cld.end_ (h : Cld f left ss) (hl : ∀ x, left x = false) : Kys f ss := ⟨h.1, fun x => by rw [h.2 x]; simp [hl x]⟩
theorem nodup_len : ∀ (k : Nat) (lo : Int) (l : List Int), l.Nodup → (∀ x ∈ l, lo ≤ x ∧ x < lo + k) → l.length ≤ k := by
  intro k
  induction k with
  | zero => intro lo l _ h; cases l with
    | nil => simp
    | cons x r => have := h x (by simp); omega
  | succ k ih =>
    intro lo l hn h
    have h1 := ih (lo + 1) (l.filter fun x => decide (x ≠ lo)) (hn.filter _) (fun x hx => by
      obtain ⟨m1, m2⟩ := List.mem_filter.1 hx
      have := h x m1
      simp only [decide_eq_true_eq] at m2
      omega)
    have h2 : l.length ≤ (l.filter fun x => decide (x ≠ lo)).length + 1 := by
      clear h1 h ih
      induction l with
      | nil => simp
      | cons y t iht =>
        obtain ⟨n1, n2⟩ := List.nodup_cons.1 hn
        by_cases q : y = lo
        · subst q
          have : t.filter (fun x => decide (x ≠ y)) = t := List.filter_eq_self.2 fun x hx => by
            simp only [decide_eq_true_eq]; rintro rfl; exact n1 hx
          rw [List.filter_cons_of_neg (by simp), this]; simp
        · rw [List.filter_cons_of_pos (by simpa using q)]
          have := iht n2
          simp only [List.length_cons]; omega
    omega
theorem Rgg.of_walks (h : Rgg b r f left c w) (hk : KeepsWalks w w1) : Rgg b r f left c w1 := by
  obtain ⟨es, cl, s, q, c0, h1, h2, h3, h4, rest⟩ := h
  exact ⟨es, cl, s, q, c0, hk.same b _ h1 rfl, h2, h3, hk.same r _ h4 rfl, rest⟩
theorem Rgg.iter_walk (h : Rgg b r f left c w) : ∃ o : Obj, w.heap[r]? = some o ∧ o.isWalk = true := by
  obtain ⟨es, cl, s, q, c0, h1, h2, h3, h4, rest⟩ := h
  exact ⟨_, h4, rfl⟩
end
set_option maxHeartbeats 1000000 in
theorem keys_any (b : Nat) (w : World) : Calls Try.prog 58 #[.map (some b)] w fun e w' => e = .returned (.func (.func 70) #[] #[.pointer (some ⟨w.heap.size, 0, none⟩)]) ∧ w' = w.alloc (.cells #[.map (some b)] 70) := by
  have hmf : ∀ (fn : Fn) (first cap : Array Value) (w : World), (Instr.makeFunc fn first cap).run Try.prog w = .ok (.func fn first cap) w := fun _ _ _ _ => rfl
  go_enter Try.func58, Try.ntmps58
  go_wp2
  go_ret
  exact ⟨rfl, rfl⟩
set_option maxRecDepth 100000 in
set_option maxHeartbeats 2000000 in
theorem keys1_in (F : Fence) (n : Nat) (hF : F.fn 70) (hro : F.round = none) (hn : 1 ≤ n) (l Bm b N : Nat) (f : Int → Option Value) (hN : ∀ ss x, (ss ++ [x]).Nodup → (∀ y ∈ ss ++ [x], f y ≠ none) → ss.length < N) (J Jx : List Int → World → Prop)
    (hY : ∀ pre x W, J pre W → pre.length < N → YieldAt F (n - 1) Try.prog l #[.int .i64 x] W fun e W' => (e = .returned (.bool true) ∧ J (pre ++ [x]) W' ∧ KeepsWalks W W') ∨ (e = .returned (.bool false) ∧ Jx (pre ++ [x]) W'))
    (W : World) (hJ : AbidesFrom W.heap.size J) (hm : W.cell? ⟨Bm, 0, none⟩ = some (.map (some b))) (hown : Mp b f W) (h0 : J [] W) :
    CallsIn F n Try.prog 70 #[.func (.yield l) #[] #[], .pointer (some ⟨Bm, 0, none⟩)] W fun e W' => (∃ v, e = .returned v) ∧ ((∃ ss, Kys f ss ∧ J ss W') ∨ (∃ pre, True ∧ Jx pre W')) := by
  refine callsIn_of_wp Try.func70 rfl hF ?_ hro
  simp only [Try.ntmps70, List.size_toArray, List.length_cons, List.length_nil, Nat.reduceAdd, Nat.reduceSub, Array.replicate_succ, Array.replicate_zero, List.push_toArray, List.append_toArray, List.nil_append, List.cons_append]
  have HN : Hid _ := hN
  have HY : Hid _ := hY
  have HJ : Hid (AbidesFrom W.heap.size J) := hJ
  clear hN hY hJ
  gi_wp2_with (first | (gi_at_range; refine wpli_range rfl _ 70 67 rfl Try.underlying70 rfl hown ?_; intro w0 c0 hrg0 hg0 hs0) | gi_in)
  go_frame
  have HS : Hid (J [] w0) := HJ.out [] W w0 none h0 hg0 (fun r e => by cases e)
  clear h0 hg0 hs0 hm hown
  gi_loopw [3] (fun _ wr => ∃ (left : Int → Bool) (cnt : Nat) (ss : List Int), Hid (Rgg b W.heap.size f left cnt wr ∧ Cld f left ss ∧ J ss wr)) (fun _ wr => wr.rangeLeft b W.heap.size)
  case atStart => exact ⟨_, _, [], hrg0, Cld.start f, HS.out⟩
  case round =>
    obtain ⟨left, cnt, ss, HQ⟩ := hrel
    clear hrg0 HS
    have hrg := HQ.out.1
    gi_wp2_with (first | (gi_at_next; refine wpli_next rfl _ rfl rfl hrg ?_ ?_) | gi_in)
    · intro hl
      have HE : Hid (∃ ss, Kys f ss ∧ J ss wr) := ⟨ss, HQ.out.2.1.end_ hl, HQ.out.2.2⟩
      clear hl hrg HQ
      gi_wp2
      go_end0
      exact ⟨⟨_, rfl⟩, .inl HE.out⟩
    · intro y v w2 c2 y0 y1 hly hy hr2 hlt2 hg2 hs2 hen
      have hC := HQ.out.2.1.step hly (by rw [hy]; simp)
      have hlen : ss.length < N := HN.out ss y hC.1 fun z hz => ((hC.2 z).1 hz).1
      have hJ2 : J ss w2 := HJ.out ss wr w2 (some W.heap.size) HQ.out.2.2 hg2 (fun r e => by cases e; exact ⟨Nat.le_refl _, hrg.iter_walk⟩)
      obtain ⟨fn, tmps, assign, body, hyl, hR⟩ := HY.out ss y w2 hJ2 hlen
      have HR : Hid (wr.rangeLeft b W.heap.size = cnt) := hrg.left_eq
      have HC : Hid _ := hC
      have HL : Hid (c2 < cnt) := hlt2
      have HR2 : Hid (Rgg b W.heap.size f (fun z => left z && !decide (z = y)) c2 w2) := hr2
      clear hs2 hg2 hly hy hrg HQ hJ2 hlen hC hlt2 hr2
      gi_wp2
      refine hR.mono ?_
      rintro e W3 (⟨rfl, hJ3, hk3⟩ | ⟨rfl, hJx3⟩)
      · have HX : Hid (Rgg b W.heap.size f (fun z => left z && !decide (z = y)) c2 W3 ∧ Cld f (fun z => left z && !decide (z = y)) (ss ++ [y]) ∧ J (ss ++ [y]) W3) := ⟨HR2.out.of_walks hk3, HC.out, hJ3⟩
        clear hJ3 hk3 HR2 HC hen
        gi_wp2
        go_roundw
        case rel => exact ⟨_, c2, _, HX.out⟩
        case measure => rw [HX.out.1.left_eq, HR.out]; exact HL.out
      · clear HR2 HC hen HL HR
        gi_wp2
        refine bodyPost_ret (results_none rfl _ _ _) rfl ?_
        exact ⟨⟨_, rfl⟩, .inr ⟨_, trivial, hJx3⟩⟩
theorem keys_seq (F : Fence) (n : Nat) (hF : F.fn 70) (hro : F.round = none) (hn : 1 ≤ n) (Bm b N : Nat) (f : Int → Option Value) (hN : ∀ ss x, (ss ++ [x]).Nodup → (∀ y ∈ ss ++ [x], f y ≠ none) → ss.length < N) {W3 : World} (hB : Lc 70 Bm [.map (some b)] W3) (hm : Mp b f W3) :
    SeqStopsK F n Try.prog 70 #[.pointer (some ⟨Bm, 0, none⟩)] (fun x : Int => #[.int .i64 x]) KeepsWalks (fun ss => Kys f ss) (fun _ => True) N W3 := by
  intro l J Jx W hW hJ _ hY h0
  exact keys1_in F n hF hro hn l Bm b N f hN J Jx hY W hJ ((hB.kp hW).at (j := 0) rfl) (hm.kp hW) h0
end Go.Proofs.Ytomiblpgjkmmcaa
/- Keys are gathered and sorted: AppendSeq, Collect, Sorted. -/
namespace Go.Proofs.Ytomiblpgjkmmcaa
open Go.ChangeShapes Go.WideShapes Go.ChangeAt Go.RowKit Go.Maps Go.MapKept Go.Shelf
set_option linter.unusedVariables false
set_option linter.unusedSimpArgs false
attribute [local go_sem] Oper.semAt_some
theorem infoInt : (Try.prog.info? 3).map (fun i => (i.zero, i.size, i.bytes)) = some (some (.int .i64 0), 1, 8) := by kernel_rfl
/-- Numbers as they lie in memory. -/
def zcs (l : List Int) : List Value := l.map (Value.int .i64)
theorem zcs_len (l : List Int) : (zcs l).length = l.length := by simp [zcs]
theorem zcs_one (l : List Int) : ∀ u ∈ zcs l, u.oneCell' = true := fun u hu => by
  obtain ⟨b, _, rfl⟩ := List.mem_map.1 hu
  rfl
/-- What is gathered lies in box B. -/
structure Apd (w : World) (B : Nat) (pre : List Int) (v : Value) (W : World) : Prop where
  box : Lc 73 B [v] W
  row : W.ownsRow w.heap.size 3 1 v pre.length (zcs pre)
  kp : Kp w W
  ge : w.heap.size ≤ B
section
variable {w W W1 : World} {B : Nat} {pre : List Int} {v : Value}
theorem Apd.grown (h : Apd w B pre v W) {row : Option Nat} {B0 : Nat} (hg : W.grownBy W1 row) (hr : ∀ r, row = some r → B0 ≤ r ∧ ∃ o : Obj, W.heap[r]? = some o ∧ o.isCells = false) (hB : w.heap.size ≤ B0) : Apd w B pre v W1 := by
  have f : Fr (fun k => row = some k) W W1 := ⟨hg.os, hg.tape, hg.output, hg.size, fun k hk q => hg.block k hk fun e => q e.symm⟩
  have hn : ∀ k c e g, W.heap[k]? = some (.cells c e g) → ¬ row = some k := fun k c e g hk q => by
    obtain ⟨_, o, h1, h2⟩ := hr k q
    rw [hk] at h1; cases h1; cases h2
  refine ⟨h.box.fr f (hn B _ _ _ h.box), row_fr h.row f fun j hj q => ?_, h.kp.trans (f.below h.kp.size fun k hk q => by have := (hr k q).1; omega), h.ge⟩
  rcases h.row.2 with ⟨e, _⟩ | ⟨g, cap, cur, e, _, hgr, _⟩
  · rw [e] at hj; cases hj
  · rw [e] at hj; simp only [Value.ownBlock, Option.some.injEq] at hj
    subst hj; exact hn g _ _ _ hgr q
/-- One more. -/
theorem Apd.more (h : Apd w B pre v W) {w1 : World} {v' : Value} {x : Int} (ho : w1.ownsRow w.heap.size 3 1 v' (pre.length + 1) (zcs pre ++ [.int .i64 x])) (hg : (W.alloc (.cells #[.int .i64 x] 3)).grownBy w1 v.ownBlock) :
    (w1.cell? ⟨B, 0, none⟩ = some v ∧ w1.frozen? ⟨B, 0, none⟩ = false) ∧ Apd w B (pre ++ [x]) v' (w1.setCell ⟨B, 0, none⟩ v') ∧ KeepsWalks W (w1.setCell ⟨B, 0, none⟩ v') ∧ ∀ B0, KeepsFrom B0 W (w1.setCell ⟨B, 0, none⟩ v') := by
  have k := kp_alloc W (.cells #[.int .i64 x] 3)
  have hb0 := h.box.kp k
  have hr0 := row_kp h.row k
  have hb1 : Lc 73 B [v] w1 := hb0.heap (hg.block B hb0.lt fun e => row_ne hr0 hb0 (by decide) e.symm)
  have f0 : Fr (fun k => v.ownBlock = some k) W w1 := ⟨hg.os.trans k.os, hg.tape.trans k.tape, hg.output.trans k.output, Nat.le_trans k.size hg.size, fun j hj q => by
    rw [hg.block j (Nat.lt_of_lt_of_le hj k.size) fun e => q e.symm]; exact k.block j hj⟩
  have f1 : Fr (fun k => k = B ∨ v.ownBlock = some k) W (w1.setCell ⟨B, 0, none⟩ v') := (f0.mono fun k _ q => Or.inr q).trans (Fr.setCell (Or.inl rfl) w1)
  have hcells : ∀ k, (k = B ∨ v.ownBlock = some k) → ∃ c e g, W.heap[k]? = some (.cells c e g) := fun k hk => by
    rcases hk with rfl | hk
    · exact ⟨_, _, _, h.box⟩
    · rcases h.row.2 with ⟨q, _⟩ | ⟨g, cap, cur, rfl, _, hg, _⟩
      · rw [q] at hk; cases hk
      · simp only [Value.ownBlock, Option.some.injEq] at hk
        exact ⟨_, _, _, hk ▸ hg⟩
  have hsame : ∀ (k : Nat) (o : Obj), W.heap[k]? = some o → o.isCells = false → (w1.setCell ⟨B, 0, none⟩ v').heap[k]? = some o := fun k o hk ho => by
    rw [f1.block k (Array.getElem?_eq_some_iff.1 hk).1 fun q => ?_]
    · exact hk
    · obtain ⟨c, e, g, hc⟩ := hcells k q
      rw [hc] at hk; cases hk; cases ho
  refine ⟨⟨hb1.at rfl, hb1.fz _⟩, ⟨by simpa using hb1.set 0 v', ?_, h.kp.trans (f1.below h.kp.size fun k hk q => ?_), h.ge⟩, ⟨f1.size, fun k o hk ho => hsame k o hk (by cases o <;> first | rfl | cases ho)⟩, fun B0 => ⟨f1.size, fun k o _ hk ho => hsame k o hk ho⟩⟩
  · have e1 : (pre ++ [x]).length = pre.length + 1 := by simp
    have e2 : zcs (pre ++ [x]) = zcs pre ++ [.int .i64 x] := by simp [zcs]
    rw [e1, e2]
    exact row_fr ho (fr_set B 0 v' w1) fun j hj q => by
      unfold On at q
      subst q
      exact row_ne ho hb1 (by decide) hj
  · rcases q with rfl | q
    · have := h.ge; omega
    · have := (h.row.lt k q).1; omega
end
/-- A map has few keys. -/
def Kfew (f : Int → Option Value) : Prop := ∀ ss : List Int, ss.Nodup → (∀ y ∈ ss, f y ≠ none) → ss.length ≤ 250
set_option maxHeartbeats 4000000 in
set_option maxRecDepth 100000 in
theorem appendSeq_any {b Bm : Nat} {f : Int → Option Value} {w : World} (hB : Lc 70 Bm [.map (some b)] w) (hm : Mp b f w) (hd : Kfew f) :
    Calls Try.prog 74 #[.slice none 0 0, .func (.func 70) #[] #[.pointer (some ⟨Bm, 0, none⟩)]] w fun e w' => ∃ (v : Value) (ss : List Int), e = .returned v ∧ Kys f ss ∧ w'.ownsRow w.heap.size 3 1 v ss.length (zcs ss) ∧ Kp w w' := by
  obtain ⟨i9, hi9, z0, z1, z2⟩ := info_parts infoInt
  have hN : ∀ (ss : List Int) (x : Int), (ss ++ [x]).Nodup → (∀ y ∈ ss ++ [x], f y ≠ none) → ss.length < 250 := fun ss x h1 h2 => by
    have := hd (ss ++ [x]) h1 h2
    simp at this; omega
  refine (callsIn_wide (n := 4)).1 ?_
  refine callsIn_of_wp_marks Try.func74 rfl trivial ?_ rfl
  simp only [Try.ntmps74, List.size_toArray, List.length_cons, List.length_nil, Nat.reduceAdd, Nat.reduceSub, Array.replicate_succ, Array.replicate_zero, List.push_toArray, List.append_toArray, List.nil_append, List.cons_append]
  refine wpIn_wide.2 ?_
  have H0 : Hid (Apd w w.heap.size [] (.slice none 0 0) (w.alloc (.cells #[.slice none 0 0] 73))) := ⟨Lc.new w [.slice none 0 0] 73, World.ownsRow_nil _ _ _ _, kp_alloc _ _, Nat.le_refl _⟩
  have HSQ : Hid (SeqStopsK Fence.wide 3 Try.prog 70 #[.pointer (some ⟨Bm, 0, none⟩)] (fun x : Int => #[.int .i64 x]) KeepsWalks (fun ss => Kys f ss) (fun _ => True) 250 (w.alloc (.cells #[.slice none 0 0] 73))) := keys_seq Fence.wide 3 trivial rfl (by omega) Bm b 250 f hN (hB.kp (kp_alloc _ _)) (hm.kp (kp_alloc _ _))
  have hz := alloc_size w (.cells #[.slice none 0 0] 73)
  clear hB hm hN hd
  go_wp2_with fail
  generalize w.alloc (.cells #[.slice none 0 0] 73) = W0 at H0 HSQ hz ⊢
  refine (wpIn_wide (n := 4)).1 (wpIn_rangeFunc_ownG rfl (by omega) (gf := 70) (lb := #[.pointer (some ⟨Bm, 0, none⟩)]) rfl trivial (enters_of Try.func70 (by kernel_rfl) rfl)
    HSQ.out (fun h k => h.trans k) (fun W l o o' hl h1 h2 h3 => KeepsWalks.putObj o' h1 h3) (Below.refl _ _) (fun _ => rfl)
    (fun pre W => ∃ v, Apd w w.heap.size pre v W) (fun _ _ _ => False)
    (fun s A B row hs hg hr => by obtain ⟨v, hs⟩ := hs; exact ⟨v, hs.grown hg hr (by omega)⟩)
    (fun _ _ _ _ _ hs _ _ => hs) ⟨_, H0.out⟩
    (fun x => { tmps := #[.slice none 0 0, .func (.func 70) #[] #[.pointer (some ⟨Bm, 0, none⟩)], .pointer (some ⟨w.heap.size, 0, none⟩), undef, .slice none 0 0, .int .i64 x, .func (.func 70) #[] #[.pointer (some ⟨Bm, 0, none⟩)], .int .i64 x, undef, undef, undef, undef, undef], defers := [] }) ?assign ?body ?done ?stop)
  case assign =>
    intro l p W K hK
    gi_wp2
    exact hK
  case body =>
    rintro l pre x W ⟨v, hR⟩ hpre
    have c0 := hR.box.at (j := 0) rfl
    obtain ⟨va, vc, rfl, v1, v2⟩ := owns_form hR.row
    obtain ⟨K, hK⟩ : ∃ K, pre.length = K := ⟨_, rfl⟩
    have HM : Hid (∀ w1 v', w1.ownsRow w.heap.size 3 1 v' (K + 1) (zcs pre ++ [.int .i64 x]) → (W.alloc (.cells #[.int .i64 x] 3)).grownBy w1 (Value.slice va pre.length vc).ownBlock → (w1.cell? ⟨w.heap.size, 0, none⟩ = some (Value.slice va pre.length vc) ∧ w1.frozen? ⟨w.heap.size, 0, none⟩ = false) ∧ Hid (Apd w w.heap.size (pre ++ [x]) v' (w1.setCell ⟨w.heap.size, 0, none⟩ v') ∧ KeepsWalks W (w1.setCell ⟨w.heap.size, 0, none⟩ v') ∧ ∀ B0, KeepsFrom B0 W (w1.setCell ⟨w.heap.size, 0, none⟩ v'))) := by
      intro w1 v' q1 q2
      rw [← hK] at q1
      exact hR.more q1 q2
    have HR : Hid ((W.alloc (.cells #[.int .i64 x] 3)).ownsRow w.heap.size 3 1 (.slice va K vc) K (zcs pre)) := by rw [← hK]; exact row_kp hR.row (kp_alloc _ _)
    have HNN : Hid (w.heap.size ≤ (W.alloc (.cells #[.int .i64 x] 3)).heap.size) := by
      have := alloc_size W (.cells #[.int .i64 x] 3)
      have := hR.kp.size
      show _ ≤ _
      omega
    rw [hK] at c0 HM hpre
    clear hR hK v1 v2 HSQ H0
    gi_wp2_with (first | (gi_at_builtin; refine wpListIn_append_own _ rfl (.tmp 8) (.tmp 10) 73 rfl w.heap.size 3 i9 _ 1 8 Try.underlying73 hi9 z0 z1 z2 rfl (by decide) (.slice va K vc) K (zcs pre) rfl HR.out ⟨W.heap.size, 0, none⟩ 1 1 [.int .i64 x] rfl rfl (cell_one_new _ _ _) (by simp [Value.oneCell']) (by unfold maxLen; omega) (by omega) HNN.out ?_; intro v' w1 q1 q2 q3; clear q3; obtain ⟨⟨c1, f1⟩, HP⟩ := HM.out w1 v' q1 q2; obtain ⟨a', c', rfl, q4, q5⟩ := owns_form q1; clear q1 q2 q4 q5) | gi_in)
    gi_wp2
    exact ⟨HP.out.2.2 _, HP.out.2.1, _, HP.out.1⟩
  case done =>
    rintro D xs W hD hxs ⟨v, hR⟩ hK
    have c0 := hR.box.at (j := 0) rfl
    obtain ⟨va, vc, rfl, v1, v2⟩ := owns_form hR.row
    have HK : Hid (Kp w (W.putObj D (.deferred none)) ∧ (W.putObj D (.deferred none)).ownsRow w.heap.size 3 1 (.slice va xs.length vc) xs.length (zcs xs)) := by
      have hf : Fr (On D) W (W.putObj D (.deferred none)) := ⟨rfl, rfl, rfl, by simp, fun k _ hn => World.putObj_heap_other hn⟩
      refine ⟨hR.kp.trans (hf.below hR.kp.size fun k hk q => by unfold On at q; omega), row_fr hR.row hf fun j hj q => ?_⟩
      unfold On at q
      subst q
      rcases hR.row.2 with ⟨e, _⟩ | ⟨g, cap, cur, e, _, hg, _⟩
      · rw [e] at hj; cases hj
      · rw [e] at hj; simp only [Value.ownBlock, Option.some.injEq] at hj
        rw [hj, hK] at hg; cases hg
    have HX : Hid (Kys f xs) := hxs
    clear v1 v2 hR HSQ H0 hxs
    go_wp2_with fail
    refine ⟨by simp, .inl ⟨_, _, rfl, run_takeDeferred hK, ?_⟩⟩
    exact ⟨_, results_tmp rfl _ _ _, .slice va xs.length vc, xs, rfl, HX.out, HK.out.2, HK.out.1⟩
  case stop =>
    rintro D c pre W _ _ h _
    exact h.elim
set_option maxHeartbeats 1000000 in
theorem collect_any {b Bm : Nat} {f : Int → Option Value} {w : World} (hB : Lc 70 Bm [.map (some b)] w) (hm : Mp b f w) (hd : Kfew f) :
    Calls Try.prog 68 #[.func (.func 70) #[] #[.pointer (some ⟨Bm, 0, none⟩)]] w fun e w' => ∃ (v : Value) (ss : List Int), e = .returned v ∧ Kys f ss ∧ w'.ownsRow w.heap.size 3 1 v ss.length (zcs ss) ∧ Kp w w' := by
  have HC : Hid _ := appendSeq_any hB hm hd
  clear hB hm hd
  go_enter Try.func68, Try.ntmps68
  go_wp2_with fail
  refine Calls.mono HC.out ?_
  rintro e w2 ⟨v, ss, rfl, h1, h2, h3⟩
  have HH : Hid (Kys f ss ∧ w2.ownsRow w.heap.size 3 1 v ss.length (zcs ss) ∧ Kp w w2) := ⟨h1, h2, h3⟩
  clear HC h1 h2 h3
  go_wp2_with fail
  go_ret
  exact ⟨v, ss, rfl, HH.out⟩
end Go.Proofs.Ytomiblpgjkmmcaa
/-
  DERIVED: THE SHELF's CONTRACTS AT THIS DUMP, IN PLAIN WORDS (tools/lay-plain.mjs out of 'YtomiblpgjkmmcaaVShelf.lean', which tools/lay-shelf.mjs wrote): THE SAME DECLARATIONS UNDER THE SAME NAMES: 'import', 'namespace', 'open', 'def', 'theorem' AND NOTHING ELSE: no command of the shelf's: FOR A HAND-IN. Each laying: the table of numbers ('.._ren') and one theorem, a field a fact of the dump's own or the kernel's comparison; each contract: ONE APPLICATION.
-/
namespace Go.Proofs
open Go.Shelf
def Try.lays189_ren : Go.Shelf.Ren := ⟨fun | 189 => 69 | 125 => 76 | 257 => 75 | 128 => 86 | 129 => 87 | 294 => 77 | 295 => 78 | 296 => 79 | 297 => 80 | 298 => 81 | 299 => 82 | 216 => 83 | 300 => 84 | 301 => 85 | 328 => 88 | 329 => 89 | 330 => 90 | 331 => 91 | 332 => 92 | 215 => 93 | 343 => 94 | n => n, fun | 28 => 73 | 3 => 3 | 46 => 123 | 0 => 0 | 51 => 133 | 53 => 135 | 4 => 4 | 183 => 126 | 182 => 125 | 131 => 130 | 5 => 5 | 9 => 9 | 218 => 136 | 222 => 140 | 228 => 142 | 229 => 115 | n => n, fun | n => n⟩
theorem Try.lays189 : Go.Proofs.Lays.n189 Try.prog Try.lays189_ren := {
  mixed := by kernel_rfl
  f125 := Try.func76.trans (congrArg some (by kernel_rfl))
  f128 := Try.func86.trans (congrArg some (by kernel_rfl))
  f129 := Try.func87.trans (congrArg some (by kernel_rfl))
  f189 := Try.func69.trans (congrArg some (by kernel_rfl))
  f215 := Try.func93.trans (congrArg some (by kernel_rfl))
  f216 := Try.func83.trans (congrArg some (by kernel_rfl))
  f257 := Try.func75.trans (congrArg some (by kernel_rfl))
  f294 := Try.func77.trans (congrArg some (by kernel_rfl))
  f295 := Try.func78.trans (congrArg some (by kernel_rfl))
  f296 := Try.func79.trans (congrArg some (by kernel_rfl))
  f297 := Try.func80.trans (congrArg some (by kernel_rfl))
  f298 := Try.func81.trans (congrArg some (by kernel_rfl))
  f299 := Try.func82.trans (congrArg some (by kernel_rfl))
  f300 := Try.func84.trans (congrArg some (by kernel_rfl))
  f301 := Try.func85.trans (congrArg some (by kernel_rfl))
  f328 := Try.func88.trans (congrArg some (by kernel_rfl))
  f329 := Try.func89.trans (congrArg some (by kernel_rfl))
  f330 := Try.func90.trans (congrArg some (by kernel_rfl))
  f331 := Try.func91.trans (congrArg some (by kernel_rfl))
  f332 := Try.func92.trans (congrArg some (by kernel_rfl))
  f343 := Try.func94.trans (congrArg some (by kernel_rfl))
  t0 := Try.underlying0
  a0 := Try.isAgg0
  z0 := Try.sizeOf0
  v0 := Try.zeroValue0
  t3 := Try.underlying3
  a3 := Try.isAgg3
  z3 := Try.sizeOf3
  v3 := Try.zeroValue3
  t4 := Try.underlying4
  a4 := Try.isAgg4
  z4 := Try.sizeOf4
  v4 := Try.zeroValue4
  t5 := Try.underlying5
  a5 := Try.isAgg5
  z5 := Try.sizeOf5
  v5 := Try.zeroValue5
  t9 := Try.underlying9
  a9 := Try.isAgg9
  z9 := Try.sizeOf9
  v9 := Try.zeroValue9
  t28 := Try.underlying73
  a28 := Try.isAgg73
  z28 := Try.sizeOf73
  v28 := Try.zeroValue73
  t46 := Try.underlying123
  a46 := Try.isAgg123
  z46 := Try.sizeOf123
  v46 := Try.zeroValue123
  t51 := Try.underlying133
  a51 := Try.isAgg133
  z51 := Try.sizeOf133
  v51 := Try.zeroValue133
  t53 := Try.underlying135
  a53 := Try.isAgg135
  z53 := Try.sizeOf135
  v53 := Try.zeroValue135
  t131 := Try.underlying130
  a131 := Try.isAgg130
  z131 := Try.sizeOf130
  v131 := Try.zeroValue130
  t182 := Try.underlying125
  a182 := Try.isAgg125
  z182 := Try.sizeOf125
  v182 := Try.zeroValue125
  t183 := Try.underlying126
  a183 := Try.isAgg126
  z183 := Try.sizeOf126
  v183 := Try.zeroValue126
  t218 := Try.underlying136
  a218 := Try.isAgg136
  z218 := Try.sizeOf136
  v218 := Try.zeroValue136
  t222 := Try.underlying140
  a222 := Try.isAgg140
  z222 := Try.sizeOf140
  v222 := Try.zeroValue140
  t228 := Try.underlying142
  a228 := Try.isAgg142
  z228 := Try.sizeOf142
  v228 := Try.zeroValue142
  t229 := Try.underlying115
  a229 := Try.isAgg115
  z229 := Try.sizeOf115
  v229 := Try.zeroValue115 }
def Try.lays108_ren : Go.Shelf.Ren := ⟨fun | 108 => 59 | n => n, fun | 28 => 73 | 3 => 3 | 0 => 0 | 4 => 4 | n => n, fun | n => n⟩
theorem Try.lays108 : Go.Proofs.Lays.n108 Try.prog Try.lays108_ren := {
  mixed := by kernel_rfl
  f108 := Try.func59.trans (congrArg some (by kernel_rfl))
  t0 := Try.underlying0
  a0 := Try.isAgg0
  z0 := Try.sizeOf0
  v0 := Try.zeroValue0
  t3 := Try.underlying3
  a3 := Try.isAgg3
  z3 := Try.sizeOf3
  v3 := Try.zeroValue3
  t4 := Try.underlying4
  a4 := Try.isAgg4
  z4 := Try.sizeOf4
  v4 := Try.zeroValue4
  t28 := Try.underlying73
  a28 := Try.isAgg73
  z28 := Try.sizeOf73
  v28 := Try.zeroValue73 }
def Try.lays112_ren : Go.Shelf.Ren := ⟨fun | 112 => 34 | n => n, fun | 28 => 73 | 3 => 3 | 4 => 4 | 0 => 0 | n => n, fun | n => n⟩
theorem Try.lays112 : Go.Proofs.Lays.n112 Try.prog Try.lays112_ren := {
  mixed := by kernel_rfl
  f112 := Try.func34.trans (congrArg some (by kernel_rfl))
  t0 := Try.underlying0
  a0 := Try.isAgg0
  z0 := Try.sizeOf0
  v0 := Try.zeroValue0
  t3 := Try.underlying3
  a3 := Try.isAgg3
  z3 := Try.sizeOf3
  v3 := Try.zeroValue3
  t4 := Try.underlying4
  a4 := Try.isAgg4
  z4 := Try.sizeOf4
  v4 := Try.zeroValue4
  t28 := Try.underlying73
  a28 := Try.isAgg73
  z28 := Try.sizeOf73
  v28 := Try.zeroValue73 }
end Go.Proofs
/- slices.Sorted of a map's keys: numbers. -/
namespace Go.Proofs.Ytomiblpgjkmmcaa
open Go.ChangeShapes Go.WideShapes Go.ChangeAt Go.RowKit Go.Maps Go.MapKept Go.Shelf
set_option linter.unusedVariables false
set_option linter.unusedSimpArgs false
set_option maxRecDepth 100000
/-- Numbers of the call's own. -/
def Ir (B : Nat) (v : Value) (ss : List Int) (w : World) : Prop := w.ownsRow B 3 1 v ss.length (zcs ss)
theorem Ir.form {B : Nat} {v : Value} {ss : List Int} {w : World} (h : Ir B v ss w) : ∃ a cap, v = .slice a ss.length cap ∧ ss.length ≤ cap ∧ cap ≤ maxLen := owns_form h
theorem zcs_cells {ss : List Int} {cur : Array Value} (h : cur.toList.take (ss.length * 1) = zcs ss) : cur.toList.take ss.length = ss.map (Value.int .i64) := by rw [Nat.mul_one] at h; exact h
theorem sortI_some {B g cap : Nat} {ss : List Int} {w : World} (h : Ir B (.slice (some ⟨g, 0, none⟩) ss.length cap) ss w) (hl : ss.length ≤ 1000000) :
    Calls Try.prog 69 #[.slice (some ⟨g, 0, none⟩) ss.length cap] w fun e w' => e = .returned (.tuple #[]) ∧ Ir B (.slice (some ⟨g, 0, none⟩) ss.length cap) (ss.mergeSort fun x y => decide (x ≤ y)) w' ∧ Fr (On g) w w' := by
  rcases h.2 with ⟨z, _⟩ | ⟨g', cap', cur, z, hb, hg, h1, h2, h3, h4⟩
  · cases z
  cases z
  refine (Any.slices_Sort_int Try.lays189 g 0 cap ss w (holds_of_blockI hg (zcs_cells h4)) (Array.getElem?_eq_some_iff.1 hg).1 (by omega)).mono ?_
  rintro e w' ⟨rfl, n, os, rfl⟩
  have hl2 : (ss.mergeSort fun x y => decide (x ≤ y)).length = ss.length := List.length_mergeSort ss
  have q := ownsRow_sortedI (n := n) (os := os) (base := B) hl2 hb hg h1 h2 h3
  refine ⟨rfl, ?_, ?_⟩
  · unfold Ir; rw [hl2]; exact q
  · have := fr_grown (grownBy_sortedI (w := w) (g := g) (n := n) (os := os) (ss.mergeSort fun x y => decide (x ≤ y)).toArray)
    exact this.mono fun k _ e => by cases e; rfl
theorem sortI_nil (w : World) : Calls Try.prog 69 #[.slice none 0 0] w fun e w' => e = .returned (.tuple #[]) ∧ w' = w :=
  Any.slices_Sort_int_none Try.lays189 none 0 w
theorem look_ne {L : List St} {x : Int} : look L x ≠ none ↔ x ∈ L.map St.seq := by
  constructor
  · intro h
    obtain ⟨s, hs⟩ := Option.ne_none_iff_exists'.1 h
    exact List.mem_map.2 ⟨s, look_mem hs, look_seq hs⟩
  · intro h e
    obtain ⟨s, hs, rfl⟩ := List.mem_map.1 h
    have := List.find?_eq_none.1 e s hs
    simp at this
theorem nodup_sub : ∀ {l M : List Int}, l.Nodup → (∀ x ∈ l, x ∈ M) → l.length ≤ M.length
  | [], M, _, _ => Nat.zero_le _
  | x :: r, M, hn, hs => by
    obtain ⟨n1, n2⟩ := List.nodup_cons.1 hn
    have hx := hs x (.head _)
    have q := nodup_sub (l := r) (M := M.erase x) n2 fun y hy => (List.mem_erase_of_ne (fun e : y = x => n1 (by rw [← e]; exact hy))).2 (hs y (.tail _ hy))
    rw [List.length_erase_of_mem hx] at q
    have : 0 < M.length := List.length_pos_of_mem hx
    simp only [List.length_cons]; omega
theorem sorted_keys {L : List St} {q : Int → Nat} {ss : List Int} (hs : (L.map St.seq).Pairwise (· < ·)) (hk : Kys (ptrs L q) ss) : (ss.mergeSort fun x y => decide (x ≤ y)) = L.map St.seq := by
  have hn : (L.map St.seq).Nodup := hs.imp fun h e => by omega
  have hp : ss.Perm (L.map St.seq) := (List.perm_ext_iff_of_nodup hk.1 hn).2 fun x => by
    rw [hk.2, ← look_ne]
    unfold ptrs
    cases look L x <;> simp
  refine List.Perm.eq_of_pairwise (le := fun a b => a ≤ b) (fun a b _ _ h1 h2 => by omega) ?_ (hs.imp fun h => by omega) ((List.mergeSort_perm ss _).trans hp)
  have := List.pairwise_mergeSort (le := fun x y : Int => decide (x ≤ y)) (fun a b c h1 h2 => by simp only [decide_eq_true_eq] at *; omega) (fun a b => by simp only [Bool.or_eq_true, decide_eq_true_eq]; omega) ss
  exact this.imp fun h => by simpa using h
theorem kfew_of {L : List St} {q : Int → Nat} (h : L.length ≤ 250) : Kfew (ptrs L q) := fun ss h1 h2 => by
  have := nodup_sub (M := L.map St.seq) h1 fun x hx => look_ne.1 (by
    have := h2 x hx
    unfold ptrs at this
    intro e; rw [e] at this; exact this rfl)
  rw [List.length_map] at this; omega
theorem Ir.kp {B : Nat} {v : Value} {ss : List Int} {w w1 : World} (h : Ir B v ss w) (k : Kp w w1) : Ir B v ss w1 := row_kp h k
set_option maxHeartbeats 4000000 in
theorem sorted_any {L : List St} {q : Int → Nat} {b Bm : Nat} {w : World} (hB : Lc 70 Bm [.map (some b)] w) (hm : Mp b (ptrs L q) w) (hl : L.length ≤ 250) (hs : (L.map St.seq).Pairwise (· < ·)) :
    Calls Try.prog 57 #[.func (.func 70) #[] #[.pointer (some ⟨Bm, 0, none⟩)]] w fun e w' => ∃ v, e = .returned v ∧ Ir w.heap.size v (L.map St.seq) w' ∧ Kp w w' := by
  have HC : Hid _ := collect_any hB hm (kfew_of hl)
  have HD : Hid ((L.map St.seq).Pairwise (· < ·) ∧ Kfew (ptrs L q)) := ⟨hs, kfew_of hl⟩
  clear hB hm hl hs
  go_enter Try.func57, Try.ntmps57
  go_wp2_with fail
  refine Calls.mono HC.out ?_
  rintro e w2 ⟨v, ss, rfl, h1, h2, h3⟩
  have hsk := sorted_keys HD.out.1 h1
  have hl : ss.length ≤ 250 := HD.out.2 ss h1.1 fun y hy => (h1.2 y).1 hy
  clear HC
  obtain ⟨a, cap, rfl, _, _⟩ := owns_form h2
  cases a with
  | none =>
    have h0 : ss = [] := by
      rcases h2.2 with ⟨e, h0⟩ | ⟨g, cap', cur, e, _⟩
      · exact List.eq_nil_of_length_eq_zero h0
      · cases e
    subst h0
    obtain rfl : cap = 0 := by
      rcases h2.2 with ⟨e, _⟩ | ⟨g, cap', cur, e, _⟩
      · cases e; rfl
      · cases e
    have HX : Hid (Ir w.heap.size (.slice none 0 0) (L.map St.seq) w2 ∧ Kp w w2) := ⟨by rw [← hsk, List.mergeSort_nil]; exact h2, h3⟩
    have HS : Hid _ := sortI_nil w2
    clear h1 h2 h3 hsk
    go_wp2_with fail
    refine Calls.mono HS.out ?_
    rintro e w3 ⟨rfl, rfl⟩
    clear HS
    go_wp2_with fail
    go_ret
    exact ⟨_, rfl, HX.out⟩
  | some ad =>
    obtain ⟨g, rfl, hbg⟩ : ∃ g, ad = ⟨g, 0, none⟩ ∧ w.heap.size ≤ g := by
      rcases h2.2 with ⟨e, h0⟩ | ⟨g, cap', cur, e, hb, _⟩
      · cases e
      · cases e; exact ⟨g, rfl, hb⟩
    have HS : Hid _ := sortI_some (B := w.heap.size) h2 (by omega)
    have HK : Hid (Kp w w2 ∧ w.heap.size ≤ g ∧ (ss.mergeSort fun x y => decide (x ≤ y)) = L.map St.seq) := ⟨h3, hbg, hsk⟩
    generalize ss.length = N at HS ⊢
    clear h1 h2 h3 hsk hbg
    go_wp2_with fail
    refine Calls.mono HS.out ?_
    rintro e w3 ⟨rfl, q1, q2⟩
    have HX : Hid (Ir w.heap.size (.slice (some ⟨g, 0, none⟩) N cap) (L.map St.seq) w3 ∧ Kp w w3) := ⟨by rw [← HK.out.2.2]; exact q1, HK.out.1.trans (q2.below HK.out.1.size fun k hk e => by have := HK.out.2.1; unfold On at e; omega)⟩
    clear HS q1 q2 HK
    go_wp2_with fail
    go_ret
    exact ⟨_, rfl, HX.out⟩
section
variable {B C t : Nat} {m : Tr} {w : World}
set_option maxHeartbeats 4000000 in
theorem numbers_any (h : Tw B C t m w) (hl : m.L.length ≤ 250) (hs : (m.L.map St.seq).Pairwise (· < ·)) :
    Calls Try.prog 33 #[.pointer (some ⟨t, 0, none⟩)] w fun e w' => ∃ v, e = .returned v ∧ Ir w.heap.size v (m.L.map St.seq) w' ∧ Kp w w' := by
  obtain ⟨b, q, h⟩ := h
  have c0 := h.box.at (j := 0) rfl
  have HK : Hid _ := keys_any b w
  have HS : Hid _ := sorted_any (L := m.L) (q := q) (b := b) (Bm := w.heap.size) (w := w.alloc (.cells #[.map (some b)] 70)) (Lc.new w _ _) (h.map.kp (kp_alloc _ _)) hl hs
  clear h hl hs
  go_enter Try.func33, Try.ntmps33
  go_wp2_with fail
  refine Calls.mono HK.out ?_
  rintro e w2 ⟨rfl, rfl⟩
  clear HK
  go_wp2_with fail
  refine Calls.mono HS.out ?_
  rintro e w3 ⟨v, rfl, q1, q2⟩
  have HX : Hid (Ir w.heap.size v (m.L.map St.seq) w3 ∧ Kp w w3) := ⟨row_lift q1 fun j hj => by have := (q1.lt j hj).1; rw [alloc_size] at this; omega, kp_trans (kp_alloc _ _) q2⟩
  clear HS q1 q2
  go_wp2_with fail
  go_ret
  exact ⟨_, rfl, HX.out⟩
end
end Go.Proofs.Ytomiblpgjkmmcaa
/- States; goBehind, Earlier, Later. -/
namespace Go.Proofs.Ytomiblpgjkmmcaa
open Go.ChangeShapes Go.WideShapes Go.ChangeAt Go.RowKit Go.Maps Go.MapKept Go.Shelf
set_option linter.unusedVariables false
set_option linter.unusedSimpArgs false
set_option maxRecDepth 100000
/-- States as they are told. -/
def flatS : List St → List Value
  | [] => []
  | s :: r => .int .i64 s.seq :: .int .i64 s.fr :: flatS r
theorem flatS_len : ∀ l : List St, (flatS l).length = l.length * 2
  | [] => rfl
  | s :: r => by simp only [flatS, List.length_cons, flatS_len r]; omega
theorem flatS_app : ∀ a b : List St, flatS (a ++ b) = flatS a ++ flatS b
  | [], b => rfl
  | c :: r, b => by simp only [flatS, List.cons_append, flatS_app r b]
theorem flatS_one : ∀ (l : List St), ∀ u ∈ flatS l, u.oneCell' = true
  | [], u, hu => by cases hu
  | c :: r, u, hu => by
    simp only [flatS, List.mem_cons] at hu
    rcases hu with rfl | rfl | hu
    · rfl
    · rfl
    · exact flatS_one r u hu
theorem flatS_at : ∀ {l : List St} {i : Nat} {s : St}, l[i]? = some s → (flatS l)[i * 2]? = some (.int .i64 s.seq) ∧ (flatS l)[i * 2 + 1]? = some (.int .i64 s.fr)
  | [], i, c, h => by cases h
  | d :: r, 0, c, h => by cases h; exact ⟨rfl, rfl⟩
  | d :: r, i + 1, c, h => by
    have q := flatS_at (l := r) (i := i) (s := c) h
    rw [show (i + 1) * 2 = i * 2 + 1 + 1 by omega]
    exact q
def Sr (B : Nat) (v : Value) (l : List St) (w : World) : Prop := w.ownsRow B 64 2 v l.length (flatS l)
theorem infoAS : (Try.prog.info? 64).map (fun i => (i.zero, i.size, i.bytes)) = some (some (.agg #[.int .i64 0, .int .i64 0]), 2, 16) := by kernel_rfl
theorem look_at {L : List St} (hs : (L.map St.seq).Pairwise (· < ·)) {i : Nat} {s : St} (hi : L[i]? = some s) : look L s.seq = some s := by
  obtain ⟨s', hs'⟩ := Option.ne_none_iff_exists'.1 (look_ne.2 (List.mem_map.2 ⟨s, List.mem_of_getElem? hi, rfl⟩))
  obtain ⟨j, hj⟩ := List.getElem?_of_mem (look_mem hs')
  have e : s'.seq = s.seq := look_seq hs'
  have h1 : (L.map St.seq)[i]? = some s.seq := by rw [List.getElem?_map, hi]; rfl
  have h2 : (L.map St.seq)[j]? = some s.seq := by rw [List.getElem?_map, hj, Option.map_some, e]
  obtain ⟨l1, e1⟩ := List.getElem?_eq_some_iff.1 h1
  obtain ⟨l2, e2⟩ := List.getElem?_eq_some_iff.1 h2
  have hp := List.pairwise_iff_getElem.1 hs
  have hij : i = j := by
    rcases Nat.lt_trichotomy i j with q | q | q
    · have := hp i j l1 l2 q; omega
    · exact q
    · have := hp j i l2 l1 q; omega
  subst hij
  rw [hi] at hj; cases hj
  exact hs'
section
variable {B C t : Nat} {m : Tr} {w : World}
set_option maxHeartbeats 8000000 in
theorem states_any (h : Tw B C t m w) (F : Fam m.L m.next) (hn : m.next ≤ 10000) (hl : m.L.length ≤ 250) (hs : (m.L.map St.seq).Pairwise (· < ·)) :
    Calls Try.prog 25 #[.pointer (some ⟨t, 0, none⟩)] w fun e w' => ∃ v, e = .returned v ∧ Sr w.heap.size v m.L w' ∧ Kp w w' := by
  obtain ⟨i9, hi9, z0, z1, z2⟩ := info_parts infoAS
  have HN : Hid _ := numbers_any h hl hs
  have HH : Hid (Tw B C t m w ∧ Fam m.L m.next ∧ m.next ≤ 10000 ∧ (m.L.map St.seq).Pairwise (· < ·)) := ⟨h, F, hn, hs⟩
  obtain ⟨N, hN⟩ : ∃ N, m.L.length = N := ⟨_, rfl⟩
  have HL : Hid (m.L.length = N) := hN
  rw [hN] at hl
  clear h F hn hs hN
  go_enter Try.func25, Try.ntmps25
  go_wp2_with fail
  refine Calls.mono HN.out ?_
  rintro e w1 ⟨v, rfl, q1, k1⟩
  obtain ⟨a, cap, rfl, _, _⟩ := q1.form
  rw [List.length_map, HL.out] at q1 ⊢
  have H1 : Hid (w1.ownsRow w.heap.size 3 1 (.slice a N cap) N (zcs (m.L.map St.seq)) ∧ Kp w w1) := ⟨by have := q1; unfold Ir at this; rw [List.length_map, HL.out] at this; exact this, k1⟩
  clear HN q1 k1
  go_wp2_with fail
  go_loopw [3, 9] (fun v3 v9 wr => ∃ (i : Nat) (a' : Option Addr) (c' : Nat), i ≤ N ∧ v9 = .int .i64 i ∧ v3 = .slice a' i c' ∧ Hid (wr.ownsRow w.heap.size 64 2 (.slice a' i c') i (flatS (m.L.take i)) ∧ wr.ownsRow w.heap.size 3 1 (.slice a N cap) N (zcs (m.L.map St.seq)) ∧ Kp w wr)) (fun _ v9 _ => N - (intOf v9).toNat)
  case atStart => exact ⟨0, none, 0, Nat.zero_le _, rfl, rfl, ⟨rfl, .inl ⟨rfl, rfl⟩⟩, H1.out⟩
  case round =>
    obtain ⟨i, a', c', hi, rfl, rfl, HI⟩ := hrel
    clear H1
    by_cases q : i < N
    · have d1 : decide ((i : Int) < (N : Int)) = true := decide_eq_true (by omega)
      have d2 : decide (i < N) = true := decide_eq_true (by omega)
      obtain ⟨s, hsi⟩ : ∃ s, m.L[i]? = some s := ⟨_, List.getElem?_eq_getElem (by rw [HL.out]; exact q)⟩
      have hlk := look_at HH.out.2.2.2 hsi
      obtain ⟨g, rfl⟩ : ∃ g, a = some ⟨g, 0, none⟩ := by
        rcases HI.out.2.1.2 with ⟨e, e0⟩ | ⟨g, _, _, e, _⟩
        · omega
        · cases e; exact ⟨g, rfl⟩
      have ci : wr.cell? ⟨g, i, none⟩ = some (.int .i64 s.seq) := by
        have := HI.out.2.1.cellAt i (by omega)
        rw [this]
        simp [zcs, hsi]
      obtain ⟨b, q', hT⟩ := HH.out.1.kp HI.out.2.2
      have c0 := hT.box.at (j := 0) rfl
      have r1 := HH.out.2.1.rg (by have := HH.out.2.2.1; omega) (x := s.seq) (by rw [hlk]; simp)
      have hk := hT.get (by omega) (by omega) hlk wr (Below.refl _ _)
      obtain ⟨_, u, p1, _⟩ := hT.st _ _ hlk
      have p0 := p1.at (j := 0) rfl
      have HR : Hid (w.heap.size ≤ wr.heap.size ∧ (wr.alloc (.cells #[.int .i64 s.seq, .int .i64 s.fr] 64)).ownsRow w.heap.size 64 2 (.slice a' i c') i (flatS (m.L.take i))) := ⟨HI.out.2.2.size, row_kp HI.out.1 (kp_alloc _ _)⟩
      have HF : Hid (∀ v4 w4, w4.ownsRow w.heap.size 64 2 v4 (i + 1) (flatS (m.L.take i) ++ [.int .i64 s.seq, .int .i64 s.fr]) → (wr.alloc (.cells #[.int .i64 s.seq, .int .i64 s.fr] 64)).grownBy w4 (Value.slice a' i c').ownBlock → ∃ a4 c4, v4 = .slice a4 (i + 1) c4 ∧ Hid (w4.ownsRow w.heap.size 64 2 (.slice a4 (i + 1) c4) (i + 1) (flatS (m.L.take (i + 1))) ∧ w4.ownsRow w.heap.size 3 1 (.slice (some ⟨g, 0, none⟩) N cap) N (zcs (m.L.map St.seq)) ∧ Kp w w4)) := fun v4 w4 x1 x2 => by
        obtain ⟨a4, c4, rfl, _, _⟩ := owns_form x1
        refine ⟨a4, c4, rfl, ?_, ?_, ?_⟩
        · rw [take_snoc m.L hsi, flatS_app]; exact x1
        · exact row_fr (row_kp HI.out.2.1 (kp_alloc _ _)) (fr_grown x2) fun j hj e => row_row HI.out.1 HI.out.2.1 (by decide) j e.symm hj
        · exact (kp_trans HI.out.2.2 (kp_alloc _ _)).trans (below_grown HR.out.2 (by have := HR.out.1; rw [alloc_size]; omega) x2)
      have HNEW : Hid (∀ j u, ([.int .i64 s.seq, .int .i64 s.fr] : List Value)[j]? = some u → (wr.alloc (.cells #[.int .i64 s.seq, .int .i64 s.fr] 64)).cell? ((⟨wr.heap.size, 0, none⟩ : Addr).add j) = some u) := fun j u hj => by
        rw [addr_add]; exact (Lc.new wr [.int .i64 s.seq, .int .i64 s.fr] 64).at hj
      have HONE : Hid (∀ u ∈ ([.int .i64 s.seq, .int .i64 s.fr] : List Value), u.oneCell' = true) := flatS_one [s]
      have HBW : Hid (w.heap.size ≤ (wr.alloc (.cells #[.int .i64 s.seq, .int .i64 s.fr] 64)).heap.size) := by have := HR.out.1; show _ ≤ _; rw [alloc_size]; omega
      clear hT p1 hlk hsi HI
      go_wp2_with (at_builtin; refine wpList_append_own _ rfl (.tmp 13) (.tmp 25) 51 rfl w.heap.size 64 i9 _ 2 16 Try.underlying51 hi9 z0 z1 z2 rfl (by decide) (.slice a' i c') i (flatS (m.L.take i)) rfl HR.out.2 ⟨wr.heap.size, 0, none⟩ 1 1 [.int .i64 s.seq, .int .i64 s.fr] rfl rfl HNEW.out HONE.out (by unfold maxLen; omega) (by omega) HBW.out ?_; intro v4 w4 x1 x2 _; obtain ⟨a4, c4, rfl, H4⟩ := HF.out v4 w4 x1 x2; clear x1 x2)
      go_roundw
      case rel => exact ⟨i + 1, a4, c4, by omega, by go_num, rfl, H4.out⟩
      case measure => simp only [intOf]; omega
    · obtain rfl : i = N := by omega
      have d1 : decide ((i : Int) < (i : Int)) = false := by simp
      have HX : Hid (Sr w.heap.size (.slice a' i c') m.L wr ∧ Kp w wr) := by
        have h1 := HI.out.1
        rw [List.take_of_length_le (by rw [HL.out]; exact Nat.le_refl _)] at h1
        exact ⟨by unfold Sr; rw [HL.out]; exact h1, HI.out.2.2⟩
      clear HI
      go_wp2_with fail
      go_ret
      exact ⟨_, rfl, HX.out⟩
end
end Go.Proofs.Ytomiblpgjkmmcaa
/- What is kept of a tree. -/
namespace Go.Proofs.Ytomiblpgjkmmcaa
open Go.ChangeShapes Go.WideShapes Go.ChangeAt Go.RowKit Go.Maps Go.MapKept
set_option linter.unusedVariables false
set_option linter.unusedSimpArgs false
structure Inv (m : Tr) : Prop where
  fam : Fam m.L m.next
  sq : (m.L.map St.seq).Pairwise (· < ·)
  nw : look m.L m.now ≠ none
section
variable {m : Tr} {s : St} {ds : List Dl}
theorem inv_first (most : Int) : Inv (first most) := by
  have hl : ∀ x s, look (first most).L x = some s → x = 0 ∧ s = ⟨0, -1, -1, []⟩ := fun x s h => by
    unfold first at h; rw [look_cons] at h
    split at h
    · rename_i e; cases h; exact ⟨e.symm, rfl⟩
    · cases h
  have h0 : look (first most).L 0 = some ⟨0, -1, -1, []⟩ := rfl
  refine ⟨⟨fun x s h => ?_, ⟨0, _, h0, rfl, fun x hx => ?_⟩, fun x s h ho => ?_, fun x s h => ?_⟩, by simp [first], by show look (first most).L 0 ≠ none; rw [h0]; simp⟩
  · obtain ⟨rfl, rfl⟩ := hl x s h; exact ⟨by decide, by decide, by decide, by show (0 : Int) < 1; decide⟩
  · obtain ⟨s, hs⟩ := Option.ne_none_iff_exists'.1 hx
    obtain ⟨rfl, _⟩ := hl x s hs
    exact ⟨[], .nil _⟩
  · obtain ⟨rfl, rfl⟩ := hl x s h; exact absurd rfl ho
  · obtain ⟨rfl, rfl⟩ := hl x s h; exact ⟨by simp, by simp⟩
theorem Fam.none_next {L : List St} {next : Int} (F : Fam L next) : look L next = none := by
  cases e : look L next with
  | none => rfl
  | some s => have := F.fr _ _ e; omega
theorem Inv.lt (h : Inv m) : 0 ≤ m.now ∧ m.now < m.next := by
  obtain ⟨s, hs⟩ := Option.ne_none_iff_exists'.1 h.nw
  have := h.fam.fr _ _ hs; omega
theorem addT_look (h : Inv m) (x : Int) : look (addT m ds).L x = if x = m.next then some ⟨m.next, m.now, -1, ds⟩ else (look m.L x).map fun s => if x = m.now then { s with on := m.next } else s := by
  have hn : look (setOn m.L m.now m.next) m.next = none := by rw [look_on, h.fam.none_next]; rfl
  show look (setOn m.L m.now m.next ++ [⟨m.next, m.now, -1, ds⟩]) x = _
  rw [look_snoc hn, look_on]
theorem Inv.add (h : Inv m) (hf : Few 2000 ds) : Inv (addT m ds) := by
  have hlt := h.lt
  have old : ∀ x s, look m.L x = some s → ∃ s', look (addT m ds).L x = some s' ∧ s'.fr = s.fr ∧ s'.by_ = s.by_ ∧ (x = m.now → s'.on = m.next) ∧ (x ≠ m.now → s'.on = s.on) := fun x s hs => by
    have := h.fam.fr _ _ hs
    rw [addT_look h, if_neg (by omega), hs]
    by_cases q : x = m.now
    · exact ⟨_, rfl, by simp [q], by simp [q], fun _ => by simp [q], fun e => absurd q e⟩
    · exact ⟨_, rfl, by simp [q], by simp [q], fun e => absurd e q, fun _ => by simp [q]⟩
  have new : look (addT m ds).L m.next = some ⟨m.next, m.now, -1, ds⟩ := by rw [addT_look h, if_pos rfl]
  have inv : ∀ x s, look (addT m ds).L x = some s → (x = m.next ∧ s = ⟨m.next, m.now, -1, ds⟩) ∨ ∃ s0, look m.L x = some s0 ∧ s.fr = s0.fr ∧ s.by_ = s0.by_ ∧ (x = m.now → s.on = m.next) ∧ (x ≠ m.now → s.on = s0.on) := fun x s hs => by
    by_cases q : x = m.next
    · subst q; rw [new] at hs; cases hs; exact .inl ⟨rfl, rfl⟩
    · rw [addT_look h, if_neg q] at hs
      obtain ⟨s0, h0, _⟩ := Option.map_eq_some_iff.1 hs
      obtain ⟨s', k1, k2, k3, k4, k5⟩ := old x s0 h0
      rw [addT_look h, if_neg q, hs] at k1; cases k1
      exact .inr ⟨s0, h0, k2, k3, k4, k5⟩
  have up : ∀ {x l y}, Up m.L x l y → Up (addT m ds).L x l y := fun hu => hu.mono fun x s hs => by obtain ⟨s', k1, k2, _⟩ := old x s hs; exact ⟨s', k1, k2⟩
  refine ⟨⟨fun x s hs => ?_, ?_, fun x s hs ho => ?_, fun x s hs => ?_⟩, ?_, ?_⟩
  · show _ ∧ _ ∧ _ ∧ x < m.next + 1
    rcases inv x s hs with ⟨rfl, rfl⟩ | ⟨s0, h0, k2, _⟩
    · exact ⟨by show -1 ≤ m.now; omega, by show m.now < _; omega, by omega, by omega⟩
    · have := h.fam.fr _ _ h0; rw [k2]; omega
  · obtain ⟨r, sr, h1, h2, h3⟩ := h.fam.rt
    obtain ⟨s', k1, k2, _⟩ := old r sr h1
    refine ⟨r, s', k1, k2.trans h2, fun x hx => ?_⟩
    obtain ⟨s, hs⟩ := Option.ne_none_iff_exists'.1 hx
    rcases inv x s hs with ⟨rfl, rfl⟩ | ⟨s0, h0, _⟩
    · obtain ⟨l, hl⟩ := h3 m.now h.nw
      exact ⟨m.next :: l, .cons new (by show m.now ≠ -1; omega) (up hl)⟩
    · obtain ⟨l, hl⟩ := h3 x (by rw [h0]; simp)
      exact ⟨l, up hl⟩
  · rcases inv x s hs with ⟨rfl, rfl⟩ | ⟨s0, h0, k2, k3, k4, k5⟩
    · exact absurd rfl ho
    · by_cases q : x = m.now
      · rw [k4 q]; exact ⟨_, new, q.symm⟩
      · rw [k5 q] at ho ⊢
        obtain ⟨s1, j1, j2⟩ := h.fam.on x s0 h0 ho
        obtain ⟨s', i1, i2, _⟩ := old _ _ j1
        exact ⟨s', i1, i2.trans j2⟩
  · rcases inv x s hs with ⟨rfl, rfl⟩ | ⟨s0, h0, k2, k3, _⟩
    · exact hf
    · rw [k3]; exact h.fam.few x s0 h0
  · show ((setOn m.L m.now m.next ++ [_]).map St.seq).Pairwise (· < ·)
    rw [List.map_append, setOn_seq, List.map_singleton, List.pairwise_append]
    refine ⟨h.sq, by simp, fun x hx y hy => ?_⟩
    simp only [List.mem_singleton] at hy
    subst hy
    obtain ⟨s, hs⟩ := Option.ne_none_iff_exists'.1 (look_ne.2 hx)
    have := h.fam.fr _ _ hs; omega
  · show look (addT m ds).L m.next ≠ none
    rw [new]; simp
theorem Inv.up (h : Inv m) (hs : look m.L m.now = some s) (hf : s.fr ≠ -1) : Inv { m with now := s.fr } := ⟨h.fam, h.sq, h.fam.from_there hs hf⟩
theorem Inv.down (h : Inv m) (hs : look m.L m.now = some s) (ho : s.on ≠ -1) : Inv { m with now := s.on } := ⟨h.fam, h.sq, by obtain ⟨s', q, _⟩ := h.fam.on _ _ hs ho; show look m.L s.on ≠ none; rw [q]; simp⟩
theorem Inv.go (h : Inv m) {seq top : Int} {l1 l2 : List Int} (hm : Meet m.L m.now seq top l1 l2) (hs : look m.L seq ≠ none) : Inv { m with L := led m.L l2 top, now := seq } := by
  obtain ⟨q1, q2⟩ := h.fam.led hm.u2
  exact ⟨q1, by show ((led m.L l2 top).map St.seq).Pairwise _; rw [q2]; exact h.sq, (ne_led _ _ _).2 hs⟩
theorem Inv.nodup (h : Inv m) : (m.L.map St.seq).Nodup := h.sq.imp fun h e => by omega
theorem led_len : ∀ (l : List Int) (L : List St) (y : Int), (led L l y).length = L.length
  | [], _, _ => rfl
  | c :: r, L, y => by show (led (setOn L (r.headD y) c) r y).length = _; rw [led_len r, setOn_len]
theorem addT_len (m : Tr) (ds : List Dl) : (addT m ds).L.length = m.L.length + 1 := by simp [addT, setOn_len]
end
end Go.Proofs.Ytomiblpgjkmmcaa
/- The chapter's example. -/
namespace Go.Proofs.Ytomiblpgjkmmcaa
open Go.ChangeShapes Go.WideShapes Go.ChangeAt Go.RowKit Go.Maps Go.MapKept
set_option linter.unusedVariables false
set_option linter.unusedSimpArgs false
set_option maxRecDepth 100000
theorem eqlT (ad : Addr) (w : World) : Sem.run Try.prog (binOp BinOp.eql 22 (.pointer (some ad)) (.pointer none)) w = .ok (.bool false) w := by kernel_rfl
theorem eqlT0 (w : World) : Sem.run Try.prog (binOp BinOp.eql 22 (.pointer none) (.pointer none)) w = .ok (.bool true) w := by kernel_rfl
theorem eqlS1 (w : World) : Sem.run Try.prog (binOp BinOp.eql 64 (.agg #[.int .i64 0, .int .i64 (-1)]) (.agg #[.int .i64 0, .int .i64 (-1)])) w = .ok (.bool true) w := by kernel_rfl
theorem eqlS2 (w : World) : Sem.run Try.prog (binOp BinOp.eql 64 (.agg #[.int .i64 2, .int .i64 0]) (.agg #[.int .i64 2, .int .i64 0])) w = .ok (.bool true) w := by kernel_rfl
theorem row_one {w : World} {b : Nat} {s : ByteArray} (h : Lc 9 b [.string s] w) : Row 0 (.slice (some ⟨b, 0, none⟩) 1 1) [s] w :=
  ⟨rfl, .inr ⟨b, 1, _, rfl, Nat.zero_le _, h, Nat.le_refl _, by simp [maxLen], rfl, rfl⟩⟩
theorem row_nil0 (B : Nat) (w : World) : Row B (.slice none 0 0) [] w := ⟨rfl, .inl ⟨rfl, rfl⟩⟩
theorem few_one (d : Dl) (h1 : d.old.length ≤ 2000) (h2 : d.nw.length ≤ 2000) : Few 2000 [d] := ⟨by simp, fun x hx => by simp only [List.mem_singleton] at hx; subst hx; exact ⟨by omega, by omega⟩⟩
/-- Add of one line that is put in. -/
theorem add_line {B C t : Nat} {m : Tr} {w : World} (h : Tw B C t m w) (I : Inv m) (hn : m.next ≤ 10000) (hm : (m.L.length : Int) + 1 ≤ m.most) (hB : B ≤ w.heap.size) (s : ByteArray) :
    Calls Try.prog 12 #[.pointer (some ⟨t, 0, none⟩), .slice (some ⟨w.heap.size + 1, 0, none⟩) 1 1] ((w.alloc (.cells #[.string s] 9)).alloc (.cells #[.int .i64 0, .slice none 0 0, .slice (some ⟨w.heap.size, 0, none⟩) 1 1] 35)) fun e w' => e = .returned (.int .i64 m.next) ∧ Tw B w'.heap.size t (addT m [⟨0, [], [s]⟩]) w' ∧ Ff TP B w w' := by
  have k : Kp w ((w.alloc (.cells #[.string s] 9)).alloc (.cells #[.int .i64 0, .slice none 0 0, .slice (some ⟨w.heap.size, 0, none⟩) 1 1] 35)) := kp_more (kp_alloc _ _) _
  have b1 := (Lc.new w [.string s] 9).kp (kp_alloc _ (.cells #[.int .i64 0, .slice none 0 0, .slice (some ⟨w.heap.size, 0, none⟩) 1 1] 35))
  have b2 := Lc.new (w.alloc (.cells #[.string s] 9)) [.int .i64 0, .slice none 0 0, .slice (some ⟨w.heap.size, 0, none⟩) 1 1] 35
  rw [alloc_size] at b2
  have hd : Dr (fun _ => True) (Row 0) (.slice (some ⟨w.heap.size + 1, 0, none⟩) 1 1) [⟨0, [], [s]⟩] _ := Dr.one (d := ⟨0, [], [s]⟩) (row_nil0 0 _) (row_one b1) b2
  refine (add_few (h.kp k) I.fam hn I.nodup I.nw hm (Nat.le_trans hB k.size) (okRow 0 0) hd (few_one _ (by simp) (by simp)) (by omega)).mono ?_
  rintro e w' ⟨rfl, q1, q2⟩
  exact ⟨rfl, q1, (Ff.kp k).trans q2⟩
def kA : ByteArray := ⟨#[97]⟩
def kB : ByteArray := ⟨#[98]⟩
def km1 : Tr := addT (first 9) [⟨0, [], [kA]⟩]
def km2 : Tr := addT { km1 with now := 0 } [⟨0, [], [kB]⟩]
theorem km1_inv : Inv km1 := (inv_first 9).add (few_one _ (by simp) (by simp))
theorem km1_now : look km1.L km1.now = some ⟨1, 0, -1, [⟨0, [], [kA]⟩]⟩ := rfl
theorem km1_up : Inv { km1 with now := 0 } := km1_inv.up km1_now (by decide)
theorem km2_inv : Inv km2 := km1_up.add (few_one _ (by simp) (by simp))
theorem km2_L : km2.L = [⟨0, -1, 2, []⟩, ⟨1, 0, -1, [⟨0, [], [kA]⟩]⟩, ⟨2, 0, -1, [⟨0, [], [kB]⟩]⟩] := rfl
theorem km2_meet : Meet km2.L km2.now 1 0 [2] [1] := by
  have h2 : look km2.L 2 = some ⟨2, 0, -1, [⟨0, [], [kB]⟩]⟩ := rfl
  have h1 : look km2.L 1 = some ⟨1, 0, -1, [⟨0, [], [kA]⟩]⟩ := rfl
  refine ⟨.cons h2 (by decide) (.nil _), .cons h1 (by decide) (.nil _), fun x hx l hl => ?_⟩
  simp only [List.mem_singleton] at hx
  subst hx
  have := (km2_inv.fam.up_le hl).1
  omega
set_option maxHeartbeats 16000000 in
theorem known_any (w : World) : Calls Try.prog 16 #[] w fun e w' => e = .returned (.bool true) ∧ Kp w w' := by
  have HN : Hid _ := new_any (most := 9) (by decide) (by decide) w
  have he := eqlT
  have he0 := eqlT0
  have hs1 := eqlS1
  have hs2 := eqlS2
  go_enter Try.func16, Try.ntmps16
  go_wp2_with fail
  refine Calls.mono HN.out ?_
  rintro e w1 ⟨t, rfl, t1, k1⟩
  have HA : Hid _ := add_line t1 (inv_first 9) (by decide) (by decide) k1.size kA
  have H1 : Hid (Kp w w1) := k1
  clear HN t1 k1
  go_wp2_with fail
  refine Calls.mono HA.out ?_
  rintro e w2 ⟨rfl, t2, f2⟩
  have H2 : Hid (Kp w w2) := H1.out.trans (f2.below H1.out.size)
  have HU : Hid _ := undo_any t2 (by constructor <;> decide) km1_now (by decide) (few_one ⟨0, [], [kA]⟩ (by simp) (by simp)) (by omega)
  clear HA H1 t2 f2
  go_wp2_with fail
  refine Calls.mono HU.out ?_
  rintro e w3 ⟨v3, rfl, d3, t3, f3⟩
  have H3 : Hid (Kp w w3) := H2.out.trans (f3.below H2.out.size)
  have HA : Hid _ := add_line (m := { km1 with now := 0 }) t3 km1_up (by decide) (by decide) H3.out.size kB
  clear HU H2 d3 t3 f3
  go_wp2_with fail
  refine Calls.mono HA.out ?_
  rintro e w4 ⟨rfl, t4, f4⟩
  have H4 : Hid (Kp w w4 ∧ Tw w.heap.size w4.heap.size t km2 w4) := ⟨H3.out.trans (f4.below H3.out.size), t4⟩
  have HS : Hid _ := states_any (m := km2) t4 km2_inv.fam (by decide) (by decide) km2_inv.sq
  clear HA H3 t4 f4
  go_wp2_with fail
  refine Calls.mono HS.out ?_
  rintro e w5 ⟨v5, rfl, s5, k5⟩
  obtain ⟨g5, c5, rfl⟩ : ∃ g c, v5 = .slice (some ⟨g, 0, none⟩) 3 c := by
    rcases s5.2 with ⟨_, e0⟩ | ⟨g, c, cur, e, _⟩
    · cases e0
    · exact ⟨g, c, e⟩
  have HG : Hid _ := go_any (m := km2) (seq := 1) (H4.out.2.kp k5) k5.size km2_inv.fam (by decide) km2_inv.nw (by decide)
  have H5 : Hid (Kp w w5 ∧ Sr w4.heap.size (.slice (some ⟨g5, 0, none⟩) 3 c5) km2.L w5) := ⟨kp_trans H4.out.1 k5, s5⟩
  clear HS H4 s5 k5
  go_wp2_with fail
  refine Calls.mono HG.out ?_
  rintro e w6 ⟨v6, rfl, top, l1, l2, hm, d6, t6, f6⟩
  obtain ⟨rfl, rfl, rfl⟩ := km2_inv.fam.meet_one hm km2_meet
  have hds : upsD km2.L [2] ++ dnD km2.L [1] = [⟨0, [kB], []⟩, ⟨0, [], [kA]⟩] := rfl
  rw [hds] at d6
  have s6 : Sr w4.heap.size (.slice (some ⟨g5, 0, none⟩) 3 c5) km2.L w6 := row_ff H5.out.2 f6 fun _ _ q => by rcases q with q | q <;> exact absurd q (by decide)
  have y0 : w6.cell? ⟨g5, 0, none⟩ = some (.int .i64 0) := (s6.cellAt 0 (by decide)).trans rfl
  have y1 : w6.cell? ⟨g5, 1, none⟩ = some (.int .i64 (-1)) := (s6.cellAt 1 (by decide)).trans rfl
  have y4 : w6.cell? ⟨g5, 4, none⟩ = some (.int .i64 2) := (s6.cellAt 4 (by decide)).trans rfl
  have y5 : w6.cell? ⟨g5, 5, none⟩ = some (.int .i64 0) := (s6.cellAt 5 (by decide)).trans rfl
  obtain ⟨a6, c6, rfl, _⟩ := d6.form
  obtain ⟨g6, o6, x0, x1, e6, _, z0, z1, z2, r0, r1⟩ := d6.dr.at_ (i := 0) rfl
  obtain ⟨g7, o7, x2, x3, e7, _, z3, z4, z5, r2, r3⟩ := d6.dr.at_ (i := 1) rfl
  rw [e6] at e7
  cases e7
  subst e6
  obtain ⟨a7, c7, rfl, _⟩ := r0.form
  obtain ⟨a8, c8, rfl, _⟩ := r3.form
  obtain ⟨h7, p7, rfl, _, m7⟩ := (Sl.of_row r0).at_ (i := 0) rfl
  obtain ⟨h8, p8, rfl, _, m8⟩ := (Sl.of_row r3).at_ (i := 0) rfl
  have H6 : Hid (Kp w w6) := H5.out.1.trans (f6.below H5.out.1.size)
  have HX : Hid _ := new_none (most := 0) (by decide) w6
  clear HG H5 hm d6 t6 f6 hds s6 r0 r1 r2 r3
  simp only [Nat.zero_mul, Nat.add_zero, Nat.one_mul] at z0 z1 z2 z3 z4 z5 m7 m8
  simp only [List.length_cons, List.length_nil, Nat.zero_add] at z1 z5
  have m7' : w6.cell? ⟨h7, p7, none⟩ = some (.string ⟨#[98]⟩) := m7
  have m8' : w6.cell? ⟨h8, p8, none⟩ = some (.string ⟨#[97]⟩) := m8
  clear m7 m8
  go_wp2_with fail
  refine Calls.mono HX.out ?_
  rintro e w7 ⟨rfl, rfl⟩
  clear HX
  go_wp2_with fail
  go_ret
  exact ⟨rfl, H6.out⟩
end Go.Proofs.Ytomiblpgjkmmcaa
/- Changes and calls that are handed in. -/
namespace Go.Proofs.Ytomiblpgjkmmcaa
open Go.ChangeShapes Go.WideShapes Go.ChangeAt Go.RowKit
set_option linter.unusedVariables false
set_option linter.unusedSimpArgs false
set_option maxRecDepth 100000
def Anyw (_ : Nat) : Prop := True
theorem fU8 {a : Int} (w : (Lit.int .u8 a).wf = true) : 0 ≤ a ∧ a < 256 := by
  have h : (decide (IntKind.u8.min ≤ a) && decide (a ≤ IntKind.u8.max)) = true := w
  rw [Bool.and_eq_true, decide_eq_true_eq, decide_eq_true_eq] at h
  have e1 : IntKind.u8.min = 0 := by decide
  have e2 : IntKind.u8.max = 255 := by decide
  omega
theorem underDelta : (Try.prog.underlying 35).map (fun | .struct fs => fs.toList.map (fun f => (f.type, f.offset)) | _ => []) = some [(3, 0), (33, 1), (33, 2)] := by kernel_rfl
theorem underOp : (Try.prog.underlying 45).map (fun | .struct fs => fs.toList.map (fun f => (f.type, f.offset)) | _ => []) = some [(5, 0), (3, 1), (25, 2)] := by kernel_rfl
theorem cDelta : Try.prog.cellsOf 35 = 3 := by kernel_rfl
theorem cOp : Try.prog.cellsOf 45 = 3 := by kernel_rfl
theorem cInt : Try.prog.cellsOf 3 = 1 := by kernel_rfl
theorem cDeltas : Try.prog.cellsOf 25 = 1 := by kernel_rfl
theorem cUB : Try.prog.cellsOf 5 = 1 := by kernel_rfl
theorem cStr : Try.prog.cellsOf 9 = 1 := by kernel_rfl
theorem cStrs : Try.prog.cellsOf 33 = 1 := by kernel_rfl
theorem bulk_mem {H : Type} {d : DataW H} {l : List (DataW H)} (h : d ∈ l) : Rows.uptoBulk d ≤ Rows.uptoBulkAll l := by
  induction l with
  | nil => cases h
  | cons x r ih =>
    simp only [Rows.uptoBulkAll]
    cases List.mem_cons.1 h with
    | inl e => subst e; omega
    | inr e => have := ih e; omega
theorem bulk_of {H : Type} {l : List (DataW H)} (hk : Rows.uptoSmall H l = true) {j : Nat} {d : DataW H} (hd : l[j]? = some d) : Rows.uptoBulk d ≤ 1048576 := by
  have h : Rows.uptoBulkAll l ≤ 1048576 := of_decide_eq_true hk
  have := bulk_mem (List.mem_of_getElem? hd)
  omega
theorem bulk_one {H : Type} (x : DataW H) : 1 ≤ Rows.uptoBulk x := by
  cases x with
  | lit l => cases l <;> simp [Rows.uptoBulk]
  | _ => simp [Rows.uptoBulk]
theorem bulk_sum {H : Type} (D : Nat → DataW H) (w : Nat → Nat) : ∀ l : List Nat, (∀ i ∈ l, w i ≤ Rows.uptoBulk (D i)) → (l.map w).sum ≤ Rows.uptoBulkAll (l.map D)
  | [], _ => by simp
  | a :: r, h => by
    have h1 := h a (by simp)
    have h2 := bulk_sum D w r fun i hi => h i (by simp [hi])
    simp only [List.map_cons, List.sum_cons, Rows.uptoBulkAll]
    omega
theorem bulk_len {H : Type} (l : List (DataW H)) : l.length ≤ Rows.uptoBulkAll l := by
  induction l with
  | nil => simp
  | cons x r ih =>
    have := bulk_one x
    simp only [Rows.uptoBulkAll, List.length_cons]; omega
theorem lines_cells {H : Type} {enc : TypeId × Value → H} {W : World} {fuel : Nat} {v : Value} {d : DataW H} {p : List MemPlace} (h : DataW.trod enc Try.prog W 0 (fun _ => true) true fuel 33 [v] = some (d, p)) :
    ∃ ls, Sl Anyw v ls W ∧ ls.length + 1 ≤ Rows.uptoBulk d := by
  rcases Deep.open_strs Try.underlying33 Try.underlying9 cStr h with ⟨hcs, hx⟩ | ⟨a, len, cap, m, Sx, hcs, _, hl, hm, hmm, hx, hcell⟩
  · simp only [List.cons.injEq, and_true] at hcs
    subst hcs
    exact ⟨[], Sl.nil _ _, bulk_one d⟩
  · simp only [List.cons.injEq, and_true] at hcs
    subst hcs
    simp only [if_true] at hmm
    subst hmm
    simp only [Prod.mk.injEq] at hx
    refine ⟨(List.range len).map Sx, ⟨some a, m, by simp, by simpa using hl, hm, (fun e => by cases e), fun i s hi => ?_⟩, ?_⟩
    · simp only [List.getElem?_map, Option.map_eq_some_iff] at hi
      obtain ⟨k, hk, rfl⟩ := hi
      obtain ⟨hlt, hk⟩ := List.getElem?_eq_some_iff.1 hk
      simp at hk hlt
      subst hk
      obtain ⟨b, off, spot⟩ := a
      have hspot : spot = none := by simpa [Addr.add] using World.cell?_spot (hcell 0 (by omega)).1
      subst hspot
      refine ⟨b, off, rfl, trivial, ?_⟩
      have := (hcell i (by omega)).1
      rw [add2] at this
      exact this
    · rw [hx.1]
      simp only [Rows.uptoBulk]
      have := bulk_len ((List.range len).map fun i => (DataW.lit (.string (Sx i).data.toList) : DataW H))
      simp only [List.length_map, List.length_range] at this ⊢
      omega
/-- What a change weighs. -/
def wD (d : Dl) : Nat := 1 + d.old.length + d.nw.length
theorem delta_cells {H : Type} {enc : TypeId × Value → H} {W : World} {fuel : Nat} {cs : List Value} {x : DataW H × List MemPlace} (h : DataW.trod enc Try.prog W 0 (fun _ => true) true fuel 35 cs = some x) :
    ∃ (c : Dv) (d : Dl), cs = [.int .i64 c.a, c.x, c.y] ∧ c.a = d.at_ ∧ Sl Anyw c.x d.old W ∧ Sl Anyw c.y d.nw W ∧ wD d ≤ Rows.uptoBulk x.1 := by
  have hu := underDelta
  rw [Option.map_eq_some_iff] at hu
  obtain ⟨ty, hty, hfs⟩ := hu
  match ty, hty, hfs with
  | .struct fs, hty, hfs =>
    simp only at hfs
    obtain ⟨xs, n, _, rfl, hcl, hxl, hf⟩ := DataW.trod_struct hty h
    rw [cDelta] at hcl
    match cs, hcl with
    | [k0, k1, k2], _ =>
      obtain ⟨fl⟩ := fs
      match fl, hfs with
      | [f0, f1, f2], hfs =>
        simp only [List.map_cons, List.map_nil, List.cons.injEq, Prod.mk.injEq, and_true] at hfs
        obtain ⟨⟨t0, o0⟩, ⟨t1, o1⟩, ⟨t2, o2⟩⟩ := hfs
        match xs, hxl with
        | [y0, y1, y2], _ =>
          have g0 := hf 0 f0 rfl
          have g1 := hf 1 f1 rfl
          have g2 := hf 2 f2 rfl
          rw [t0, o0, cInt] at g0
          rw [t1, o1, cStrs] at g1
          rw [t2, o2, cStrs] at g2
          obtain ⟨a0, e0, r0, w0⟩ := DataW.trod_int Try.underlying3 g0
          have g1' : DataW.trod enc Try.prog W 0 (fun _ => true) true n 33 [k1] = some (y1.1, y1.2) := g1
          have g2' : DataW.trod enc Try.prog W 0 (fun _ => true) true n 33 [k2] = some (y2.1, y2.2) := g2
          obtain ⟨l1, h1, h2⟩ := lines_cells g1'
          obtain ⟨l2, h3, h4⟩ := lines_cells g2'
          simp at e0
          refine ⟨⟨a0, k1, k2⟩, ⟨a0, l1, l2⟩, by rw [e0], rfl, h1, h3, ?_⟩
          show wD ⟨a0, l1, l2⟩ ≤ Rows.uptoBulk (DataW.agg [y0.1, y1.1, y2.1] : DataW H)
          simp only [Rows.uptoBulk, Rows.uptoBulkAll, wD]
          omega
/-- Changes that are handed in: they lie below B. -/
abbrev DArg (B : Nat) (v : Value) (ds : List Dl) (w : World) : Prop := Dr (fun k => k < B) (Sl fun k => k < B) v ds w
theorem DArg.below {B : Nat} {v : Value} {ds : List Dl} {w w1 : World} (h : DArg B v ds w) (k : Below B w w1) : DArg B v ds w1 := by
  obtain ⟨a, cap, cs, rfl, h1, h2, h3, h4, h5⟩ := h
  have sl : ∀ v ls, Sl (fun k => k < B) v ls w → Sl (fun k => k < B) v ls w1 := fun v ls q => by
    obtain ⟨a, cap, rfl, q1, q2, q3, q4⟩ := q
    refine ⟨a, cap, rfl, q1, q2, q3, fun i s hi => ?_⟩
    obtain ⟨g, o, e, p, c⟩ := q4 i s hi
    exact ⟨g, o, e, p, by rw [World.cell?_of_block (k.block g p)]; exact c⟩
  refine ⟨a, cap, cs, rfl, h1, h2, h3, fun j u hj => ?_, h5.imp sl⟩
  obtain ⟨g, o, e, p, c⟩ := h4 j u hj
  exact ⟨g, o, e, p, by rw [World.cell?_of_block (k.block g p)]; exact c⟩
theorem dels_cells {H : Type} {enc : TypeId × Value → H} {W : World} {fuel : Nat} {v : Value} {d : DataW H} {p : List MemPlace} (h : DataW.trod enc Try.prog W 0 (fun _ => true) true fuel 25 [v] = some (d, p)) :
    ∃ ds, DArg W.heap.size v ds W ∧ (ds.map wD).sum + 1 ≤ Rows.uptoBulk d := by
  rcases Deep.open_slice Try.underlying25 h with ⟨hcs, hx⟩ | ⟨a, len, cap, m, n, D, Pl, hcs, _, hl, hm, hmm, hx, hcell⟩
  · simp only [List.cons.injEq, and_true] at hcs
    subst hcs
    exact ⟨[], ⟨none, 0, [], rfl, by simp, by simp [maxLen], (fun _ => rfl), (fun j u hj => by cases hj), rfl, fun i d c hi => by cases hi⟩, bulk_one d⟩
  · simp only [List.cons.injEq, and_true] at hcs
    subst hcs
    simp only [if_true] at hmm
    subst hmm
    simp only [Prod.mk.injEq] at hx
    rw [cDelta] at hcell
    have each : ∀ i, i < m → ∃ o : Dv × Dl, (∀ (j : Nat) c, [Value.int .i64 o.1.a, o.1.x, o.1.y][j]? = some c → W.cell? ((a.add (i * 3)).add j) = some c) ∧ o.1.a = o.2.at_ ∧ Sl Anyw o.1.x o.2.old W ∧ Sl Anyw o.1.y o.2.nw W ∧ wD o.2 ≤ Rows.uptoBulk (D i) := fun i hi => by
      obtain ⟨cs', h1, h2⟩ := hcell i hi
      obtain ⟨c, d, e, r1⟩ := delta_cells h2
      obtain ⟨_, hlen, hc⟩ := World.cells?_some h1
      refine ⟨(c, d), fun j u hj => ?_, r1⟩
      rw [hc j (by have := (List.getElem?_eq_some_iff.1 hj).1; simpa using this), e]; exact hj
    haveI : Inhabited (Dv × Dl) := ⟨(⟨0, .slice none 0 0, .slice none 0 0⟩, ⟨0, [], []⟩)⟩
    obtain ⟨F, hF⟩ := Deep.choose_lt each
    have sl : ∀ {v ls}, Sl Anyw v ls W → Sl (fun k => k < W.heap.size) v ls W := fun q => q.mono fun k hk _ => hk
    refine ⟨(List.range len).map fun i => (F i).2, ⟨some a, m, (List.range len).map fun i => (F i).1, by simp, by simpa using hl, hm, (fun e => by cases e), fun j u hj => ?_, by simp, fun i d c h1 h2 => ?_⟩, ?_⟩
    · obtain ⟨b, off, spot⟩ := a
      have hjl := (List.getElem?_eq_some_iff.1 hj).1
      rw [flatV_len, List.length_map, List.length_range] at hjl
      have hs : spot = none := by simpa [Addr.add] using World.cell?_spot ((hF 0 (by omega)).1 0 _ rfl)
      subst hs
      have hi : j / 3 < len := by omega
      have q := (hF (j / 3) (by omega)).1
      have e : ∀ k, ((⟨b, off, none⟩ : Addr).add (j / 3 * 3)).add k = ⟨b, off + j / 3 * 3 + k, none⟩ := fun k => by rw [add2, add2]
      have hg : ((List.range len).map fun i => (F i).1)[j / 3]? = some (F (j / 3)).1 := by simp [hi]
      obtain ⟨p0, p1, p2⟩ := flatV_at hg
      have hcase : W.cell? ⟨b, off + j, none⟩ = some u := by
        rcases Nat.lt_or_ge (j % 3) 1 with r | r
        · have e3 : j = 3 * (j / 3) := by omega
          rw [e3] at hj; rw [p0] at hj; cases hj
          have := q 0 _ rfl; rw [e] at this; rw [show off + j = off + j / 3 * 3 + 0 by omega]; exact this
        · rcases Nat.lt_or_ge (j % 3) 2 with r2 | r2
          · have e3 : j = 3 * (j / 3) + 1 := by omega
            rw [e3] at hj; rw [p1] at hj; cases hj
            have := q 1 _ rfl; rw [e] at this; rw [show off + j = off + j / 3 * 3 + 1 by omega]; exact this
          · have e3 : j = 3 * (j / 3) + 2 := by omega
            rw [e3] at hj; rw [p2] at hj; cases hj
            have := q 2 _ rfl; rw [e] at this; rw [show off + j = off + j / 3 * 3 + 2 by omega]; exact this
      exact ⟨b, off, rfl, World.block_lt_of_cell? _ _ hcase, hcase⟩
    · simp only [List.getElem?_map, Option.map_eq_some_iff] at h1 h2
      obtain ⟨k, hk, rfl⟩ := h1
      obtain ⟨k', hk', rfl⟩ := h2
      rw [hk] at hk'; cases hk'
      obtain ⟨hlt, hk⟩ := List.getElem?_eq_some_iff.1 hk
      simp at hk hlt
      subst hk
      have q := hF i (by omega)
      exact ⟨q.2.1, sl q.2.2.1, sl q.2.2.2.1⟩
    · rw [hx.1]
      simp only [Rows.uptoBulk]
      have := bulk_sum D (fun i => wD (F i).2) (List.range len) fun i hi => (hF i (by have := List.mem_range.1 hi; omega)).2.2.2.2
      rw [List.map_map]
      have e : (wD ∘ fun i => (F i).2) = fun i => wD (F i).2 := rfl
      rw [e]
      omega
theorem dels_form {H : Type} {enc : TypeId × Value → H} {W : World} {base : Nat} {v : Value} {d : DataW H} {p : List MemPlace} (hval : Value.okWide Try.prog W .any base 25 v) (h : DataW.Trod enc Try.prog W 0 (fun _ => true) true 25 v d p) :
    ∃ ds, DArg W.heap.size v ds W ∧ (ds.map wD).sum + 1 ≤ Rows.uptoBulk d := by
  obtain ⟨a0, len0, cap0, rfl⟩ := okWide_slice Try.underlying25 hval
  obtain ⟨fuel, hf⟩ := h
  exact dels_cells hf
/-- A call that is handed in. -/
structure Op12 where
  kd : Nat
  n : Int
  v : Value
  ds : List Dl
/-- Calls that are handed in. -/
def OpL (B : Nat) (v : Value) (l : List Op12) (w : World) : Prop :=
  ∃ a cap, v = .slice a l.length cap ∧ l.length ≤ cap ∧ cap ≤ maxLen ∧ ∀ (i : Nat) (o : Op12), l[i]? = some o → ∃ g off, a = some ⟨g, off, none⟩ ∧ g < B ∧ w.cell? ⟨g, off + i * 3, none⟩ = some (.int .u8 o.kd) ∧ w.cell? ⟨g, off + i * 3 + 1, none⟩ = some (.int .i64 o.n) ∧ w.cell? ⟨g, off + i * 3 + 2, none⟩ = some o.v ∧ DArg B o.v o.ds w
theorem OpL.below {B : Nat} {v : Value} {l : List Op12} {w w1 : World} (h : OpL B v l w) (k : Below B w w1) : OpL B v l w1 := by
  obtain ⟨a, cap, rfl, h1, h2, h3⟩ := h
  refine ⟨a, cap, rfl, h1, h2, fun i o hi => ?_⟩
  obtain ⟨g, off, e, p, c0, c1, c2, q⟩ := h3 i o hi
  have e1 : ∀ j, w1.cell? ⟨g, j, none⟩ = w.cell? ⟨g, j, none⟩ := fun j => World.cell?_of_block (k.block g p)
  exact ⟨g, off, e, p, by rw [e1]; exact c0, by rw [e1]; exact c1, by rw [e1]; exact c2, q.below k⟩
theorem fI64 {a : Int} (w : (Lit.int .i64 a).wf = true) : -9223372036854775808 ≤ a ∧ a < 9223372036854775808 := by
  have h : (decide (IntKind.i64.min ≤ a) && decide (a ≤ IntKind.i64.max)) = true := w
  rw [Bool.and_eq_true, decide_eq_true_eq, decide_eq_true_eq] at h
  have e1 : IntKind.i64.min = -9223372036854775808 := by decide
  have e2 : IntKind.i64.max = 9223372036854775807 := by decide
  omega
theorem op_cells {H : Type} {enc : TypeId × Value → H} {W : World} {fuel : Nat} {cs : List Value} {x : DataW H × List MemPlace} (h : DataW.trod enc Try.prog W 0 (fun _ => true) true fuel 45 cs = some x) :
    ∃ o : Op12, cs = [.int .u8 o.kd, .int .i64 o.n, o.v] ∧ o.kd < 256 ∧ (-9223372036854775808 ≤ o.n ∧ o.n < 9223372036854775808) ∧ DArg W.heap.size o.v o.ds W ∧ (o.ds.map wD).sum ≤ Rows.uptoBulk x.1 := by
  have hu := underOp
  rw [Option.map_eq_some_iff] at hu
  obtain ⟨ty, hty, hfs⟩ := hu
  match ty, hty, hfs with
  | .struct fs, hty, hfs =>
    simp only at hfs
    obtain ⟨xs, n, _, rfl, hcl, hxl, hf⟩ := DataW.trod_struct hty h
    rw [cOp] at hcl
    match cs, hcl with
    | [k0, k1, k2], _ =>
      obtain ⟨fl⟩ := fs
      match fl, hfs with
      | [f0, f1, f2], hfs =>
        simp only [List.map_cons, List.map_nil, List.cons.injEq, Prod.mk.injEq, and_true] at hfs
        obtain ⟨⟨t0, o0⟩, ⟨t1, o1⟩, ⟨t2, o2⟩⟩ := hfs
        match xs, hxl with
        | [y0, y1, y2], _ =>
          have g0 := hf 0 f0 rfl
          have g1 := hf 1 f1 rfl
          have g2 := hf 2 f2 rfl
          rw [t0, o0, cUB] at g0
          rw [t1, o1, cInt] at g1
          rw [t2, o2, cDeltas] at g2
          obtain ⟨a0, e0, r0, w0⟩ := DataW.trod_int Try.underlying5 g0
          obtain ⟨a1, e1, r1, w1⟩ := DataW.trod_int Try.underlying3 g1
          have g2' : DataW.trod enc Try.prog W 0 (fun _ => true) true n 25 [k2] = some (y2.1, y2.2) := g2
          obtain ⟨ds, h1, h2⟩ := dels_cells g2'
          simp at e0 e1
          have u0 := fU8 w0
          refine ⟨⟨a0.toNat, a1, k2, ds⟩, ?_, by show a0.toNat < 256; omega, fI64 w1, h1, ?_⟩
          · simp only [Int.toNat_of_nonneg u0.1]
            rw [e0, e1]
          · show (ds.map wD).sum ≤ Rows.uptoBulk (DataW.agg [y0.1, y1.1, y2.1] : DataW H)
            simp only [Rows.uptoBulk, Rows.uptoBulkAll]
            omega
/-- What calls weigh. -/
def wO (l : List Op12) : Nat := (l.map fun o => (o.ds.map wD).sum).sum
theorem ops_form {H : Type} {enc : TypeId × Value → H} {W : World} {base : Nat} {v : Value} {d : DataW H} {p : List MemPlace} (hval : Value.okWide Try.prog W .any base 39 v) (h : DataW.Trod enc Try.prog W 0 (fun _ => true) true 39 v d p) :
    ∃ l : List Op12, OpL W.heap.size v l W ∧ (∀ o ∈ l, o.kd < 256 ∧ -9223372036854775808 ≤ o.n ∧ o.n < 9223372036854775808) ∧ wO l ≤ Rows.uptoBulk d ∧ l.length ≤ Rows.uptoBulk d := by
  obtain ⟨a0, len0, cap0, rfl⟩ := okWide_slice Try.underlying39 hval
  obtain ⟨fuel, hf⟩ := h
  rcases Deep.open_slice Try.underlying39 hf with ⟨hcs, hx⟩ | ⟨a, len, cap, m, n, D, Pl, hcs, _, hl, hm, hmm, hx, hcell⟩
  · simp [Value.cells] at hcs
    obtain ⟨rfl, rfl, rfl⟩ := hcs
    exact ⟨[], ⟨none, 0, rfl, by simp, by simp [maxLen], fun i t hi => by cases hi⟩, (fun o ho => by cases ho), by simp [wO], by simp⟩
  · simp [Value.cells] at hcs
    obtain ⟨rfl, rfl, rfl⟩ := hcs
    simp only [if_true] at hmm
    subst hmm
    simp only [Prod.mk.injEq] at hx
    rw [cOp] at hcell
    have each : ∀ i, i < m → ∃ o : Op12, (∀ (j : Nat) c, [Value.int .u8 o.kd, .int .i64 o.n, o.v][j]? = some c → W.cell? ((a.add (i * 3)).add j) = some c) ∧ o.kd < 256 ∧ (-9223372036854775808 ≤ o.n ∧ o.n < 9223372036854775808) ∧ DArg W.heap.size o.v o.ds W ∧ (o.ds.map wD).sum ≤ Rows.uptoBulk (D i) := fun i hi => by
      obtain ⟨cs', h1, h2⟩ := hcell i hi
      obtain ⟨o, e, r1⟩ := op_cells h2
      obtain ⟨_, hlen, hc⟩ := World.cells?_some h1
      refine ⟨o, fun j c hj => ?_, r1⟩
      rw [hc j (by have := (List.getElem?_eq_some_iff.1 hj).1; simpa using this), e]; exact hj
    haveI : Inhabited Op12 := ⟨⟨0, 0, .slice none 0 0, []⟩⟩
    obtain ⟨F, hF⟩ := Deep.choose_lt each
    refine ⟨(List.range len0).map F, ⟨some a, m, by simp, by simpa using hl, hm, fun i o hi => ?_⟩, fun o ho => ?_, ?_, ?_⟩
    · simp only [List.getElem?_map, Option.map_eq_some_iff] at hi
      obtain ⟨k, hk, rfl⟩ := hi
      obtain ⟨hlt, hk⟩ := List.getElem?_eq_some_iff.1 hk
      simp at hk hlt
      subst hk
      obtain ⟨b, off, spot⟩ := a
      have hs : spot = none := by simpa [Addr.add] using World.cell?_spot ((hF 0 (by omega)).1 0 _ rfl)
      subst hs
      have q := (hF i (by omega)).1
      have e : ∀ j, ((⟨b, off, none⟩ : Addr).add (i * 3)).add j = ⟨b, off + i * 3 + j, none⟩ := fun j => by rw [add2, add2]
      have z0 := q 0 _ rfl
      have z1 := q 1 _ rfl
      have z2 := q 2 _ rfl
      rw [e] at z0 z1 z2
      exact ⟨b, off, rfl, World.block_lt_of_cell? _ _ z0, z0, z1, z2, (hF i (by omega)).2.2.2.1⟩
    · obtain ⟨k, hk, rfl⟩ := List.mem_map.1 ho
      have hk' : k < len0 := by simpa using hk
      have q := hF k (by omega)
      exact ⟨q.2.1, q.2.2.1⟩
    · rw [hx.1]
      simp only [Rows.uptoBulk]
      have := bulk_sum D (fun i => ((F i).ds.map wD).sum) (List.range len0) fun i hi => (hF i (by have := List.mem_range.1 hi; omega)).2.2.2.2
      unfold wO
      rw [List.map_map]
      have e : ((fun o => (o.ds.map wD).sum) ∘ F) = fun i => ((F i).ds.map wD).sum := rfl
      rw [e]
      omega
    · rw [hx.1]
      simp only [Rows.uptoBulk, List.length_map, List.length_range]
      have := bulk_len ((List.range len0).map D)
      simp at this
      omega
end Go.Proofs.Ytomiblpgjkmmcaa
/- heavy. -/
namespace Go.Proofs.Ytomiblpgjkmmcaa
open Go.ChangeShapes Go.WideShapes Go.ChangeAt Go.RowKit
set_option linter.unusedVariables false
set_option linter.unusedSimpArgs false
set_option maxRecDepth 100000
/-- Calls that can be read. -/
def OpQ (v : Value) (l : List Op12) (w : World) : Prop :=
  ∃ a cap, v = .slice a l.length cap ∧ l.length ≤ cap ∧ cap ≤ maxLen ∧ ∀ (i : Nat) (o : Op12), l[i]? = some o → ∃ g off, a = some ⟨g, off, none⟩ ∧ w.cell? ⟨g, off + i * 3 + 2, none⟩ = some o.v ∧ ∃ D, DArg D o.v o.ds w
theorem OpL.q {B : Nat} {v : Value} {l : List Op12} {w : World} (h : OpL B v l w) : OpQ v l w := by
  obtain ⟨a, cap, rfl, h1, h2, h3⟩ := h
  refine ⟨a, cap, rfl, h1, h2, fun i o hi => ?_⟩
  obtain ⟨g, off, e, _, _, _, c, d⟩ := h3 i o hi
  exact ⟨g, off, e, c, B, d⟩
def hvO (l : List Op12) : Bool := decide (120 < l.length) || decide (2000 < wO l)
def wE (ds : List Dl) : Nat := (ds.map fun d => d.old.length + d.nw.length).sum
theorem wD_wE (ds : List Dl) : (ds.map wD).sum = ds.length + wE ds := by
  induction ds with
  | nil => rfl
  | cons d r ih => simp only [List.map_cons, List.sum_cons, List.length_cons, wE, wD] at *; omega
theorem wE_take {ds : List Dl} {k : Nat} {d : Dl} (h : ds[k]? = some d) : wE (ds.take (k + 1)) = wE (ds.take k) + (d.old.length + d.nw.length) := by
  rw [take_snoc ds h]; simp [wE]
theorem wE_app (a b : List Dl) : wE (a ++ b) = wE a + wE b := by unfold wE; rw [List.map_append, List.sum_append]
theorem wE_le (ds : List Dl) (k : Nat) : wE (ds.take k) ≤ wE ds := by
  have h := wE_app (ds.take k) (ds.drop k)
  rw [List.take_append_drop] at h
  omega
theorem wO_take {l : List Op12} {i : Nat} {o : Op12} (h : l[i]? = some o) : wO (l.take (i + 1)) = wO (l.take i) + (o.ds.length + wE o.ds) := by
  rw [take_snoc l h, ← wD_wE]; simp [wO]
theorem wO_app (a b : List Op12) : wO (a ++ b) = wO a + wO b := by unfold wO; rw [List.map_append, List.sum_append]
theorem wO_le (l : List Op12) (k : Nat) : wO (l.take k) ≤ wO l := by
  have h := wO_app (l.take k) (l.drop k)
  rw [List.take_append_drop] at h
  omega
set_option maxHeartbeats 8000000 in
theorem heavy_any {v : Value} {l : List Op12} {w : World} (h : OpQ v l w) (hb : wO l ≤ 1000000000) :
    Calls Try.prog 21 #[v] w fun e w' => e = .returned (.bool (hvO l)) ∧ ∃ k, w' = w.drewN k := by
  obtain ⟨a, cap, rfl, h1, h2, h3⟩ := h
  obtain ⟨N, hN⟩ : ∃ N, l.length = N := ⟨_, rfl⟩
  have HL : Hid (l.length = N) := hN
  have HH : Hid (∀ (i : Nat) (o : Op12), l[i]? = some o → ∃ g off, a = some ⟨g, off, none⟩ ∧ w.cell? ⟨g, off + i * 3 + 2, none⟩ = some o.v ∧ ∃ D, DArg D o.v o.ds w) := h3
  have HB : Hid (wO l ≤ 1000000000) := hb
  rw [hN] at h1 ⊢
  unfold maxLen at h2
  have hN9 : N ≤ 9223372036854775807 := by omega
  clear h3 hN hb h1 h2
  by_cases q : 120 < N
  · have d1 : decide ((N : Int) > 120) = true := decide_eq_true (by omega)
    have d2 : decide ((120 : Int) < (N : Int)) = true := decide_eq_true (by omega)
    have HE : Hid (hvO l = true) := by show hvO l = true; unfold hvO; rw [HL.out, decide_eq_true q]; rfl
    go_enter Try.func21, Try.ntmps21
    go_wp2_with fail
    go_ret
    exact ⟨by rw [HE.out]; rfl, 0, rfl⟩
  · have d1 : decide ((N : Int) > 120) = false := decide_eq_false (by omega)
    have d2 : decide ((120 : Int) < (N : Int)) = false := decide_eq_false (by omega)
    have HE : Hid (hvO l = decide (2000 < wO l)) := by show hvO l = _; unfold hvO; rw [HL.out, decide_eq_false q, Bool.false_or]
    go_enter Try.func21, Try.ntmps21
    go_wp2_with fail
    go_loopw [3, 4, 5] (fun v3 v4 _ wr => ∃ (i m k : Nat), i ≤ N ∧ v4 = .int .i64 i ∧ v3 = .int .i64 m ∧ m ≤ 1000000000 ∧ wr = w.drewN k ∧ Hid (wO (l.take i) = m)) (fun _ v4 _ _ => N - (intOf v4).toNat)
    case atStart => exact ⟨0, 0, 0, Nat.zero_le _, rfl, rfl, by omega, rfl, rfl⟩
    case round =>
      obtain ⟨i, m, k, hi, rfl, rfl, hm, rfl, HM⟩ := hrel
      by_cases p : i < N
      · have d3 : decide ((i : Int) < (N : Int)) = true := decide_eq_true (by omega)
        have d4 : decide (i < N) = true := decide_eq_true (by omega)
        obtain ⟨o, ho⟩ : ∃ o, l[i]? = some o := ⟨_, List.getElem?_eq_getElem (by rw [HL.out]; exact p)⟩
        obtain ⟨g, off, rfl, c0, D, hd⟩ := HH.out i o ho
        obtain ⟨b, cp, hv, _⟩ := hd.form
        have ht := wO_take ho
        have hle := wO_le l (i + 1)
        obtain ⟨K, hK⟩ : ∃ K, o.ds.length = K := ⟨_, rfl⟩
        have HK : Hid (o.ds.length = K ∧ wO (l.take (i + 1)) = m + (K + wE o.ds) ∧ m + (K + wE o.ds) ≤ 1000000000) := ⟨hK, by rw [ht, HM.out, hK], by have := HB.out; have := HM.out; omega⟩
        rw [hv, hK] at c0
        have HD : Hid (DArg D (.slice b K cp) o.ds w) := by rw [hv, hK] at hd; exact hd
        have hKm : m + K ≤ 1000000000 := by have := HK.out.2.2; omega
        clear ht hle hK hd hv HM ho
        go_wp2_with fail
        go_loopw [3, 5] (fun v3 v5 wr => ∃ (j s k : Nat), j ≤ K ∧ v5 = .int .i64 j ∧ v3 = .int .i64 s ∧ s ≤ 1000000000 ∧ wr = w.drewN k ∧ Hid (m + K + wE (o.ds.take j) = s)) (fun _ v5 _ => K - (intOf v5).toNat)
        case atStart => exact ⟨0, m + K, k, Nat.zero_le _, rfl, by go_num, by omega, rfl, rfl⟩
        case round =>
          obtain ⟨j, s, k2, hj, rfl, rfl, hs, rfl, HS⟩ := hrel
          by_cases p2 : j < K
          · have d5 : decide ((j : Int) < (K : Int)) = true := decide_eq_true (by omega)
            have d6 : decide (j < K) = true := decide_eq_true (by omega)
            obtain ⟨d, hd⟩ : ∃ d, o.ds[j]? = some d := ⟨_, List.getElem?_eq_getElem (by rw [HK.out.1]; exact p2)⟩
            obtain ⟨g2, o2, x, y, rfl, _, _, c1, c2, x1, x2⟩ := HD.out.at_ hd
            obtain ⟨xa, xc, rfl, _⟩ := x1.form
            obtain ⟨ya, yc, rfl, _⟩ := x2.form
            have ht := wE_take hd
            have hle := wE_le o.ds (j + 1)
            obtain ⟨X1, hX1⟩ : ∃ X, d.old.length = X := ⟨_, rfl⟩
            obtain ⟨Y1, hY1⟩ : ∃ X, d.nw.length = X := ⟨_, rfl⟩
            rw [hX1] at c1 ht
            rw [hY1] at c2 ht
            have HQ : Hid (m + K + wE (o.ds.take (j + 1)) = s + (X1 + Y1)) := by have := HS.out; show _ = _; omega
            have hsm : s + (X1 + Y1) ≤ 1000000000 := by have := HQ.out; have := HK.out.2.2; omega
            clear hd x1 x2 ht hle hX1 hY1 HS
            go_wp2_with fail
            go_quiet (fail)
            go_wp2_with fail
            go_roundw
            case rel => exact ⟨j + 1, s + (X1 + Y1), _, by omega, by go_num, by go_num, hsm, rfl, HQ.out⟩
            case measure => simp only [intOf]; omega
          · obtain rfl : j = K := by omega
            have d5 : decide ((j : Int) < (j : Int)) = false := by simp
            have HQ : Hid (wO (l.take (i + 1)) = s) := by
              have h1 := HS.out
              rw [List.take_of_length_le (by rw [HK.out.1]; exact Nat.le_refl _)] at h1
              show _ = _
              rw [HK.out.2.1]; omega
            clear HS
            go_wp2_with fail
            go_roundw
            case rel => exact ⟨i + 1, s, _, by omega, by go_num, rfl, hs, rfl, HQ.out⟩
            case measure => simp only [intOf]; omega
      · obtain rfl : i = N := by omega
        have d3 : decide ((i : Int) < (i : Int)) = false := by simp
        have hmm : m = wO l := by have h1 := HM.out; rw [List.take_of_length_le (by rw [HL.out]; exact Nat.le_refl _)] at h1; exact h1.symm
        have HX : Hid (hvO l = decide ((m : Int) > 2000)) := by
          show hvO l = _
          rw [HE.out, hmm]
          by_cases z : 2000 < wO l
          · rw [decide_eq_true z, decide_eq_true (by omega)]
          · rw [decide_eq_false z, decide_eq_false (by omega)]
        clear HM hmm
        go_wp2_with fail
        go_ret
        exact ⟨by rw [HX.out]; rfl, k, rfl⟩
end Go.Proofs.Ytomiblpgjkmmcaa
/- UndoTurns, walked. -/
namespace Go.Proofs.Ytomiblpgjkmmcaa
open Go.ChangeShapes Go.WideShapes Go.ChangeAt Go.RowKit
set_option linter.unusedVariables false
set_option linter.unusedSimpArgs false
set_option maxRecDepth 100000
theorem wD_mem {ds : List Dl} {d : Dl} (h : d ∈ ds) : wD d ≤ (ds.map wD).sum := by
  induction ds with
  | nil => cases h
  | cons a r ih =>
    simp only [List.map_cons, List.sum_cons]
    rcases List.mem_cons.1 h with rfl | h
    · omega
    · have := ih h; omega
theorem few_wD {ds : List Dl} {N : Nat} (h : (ds.map wD).sum ≤ N) (hN : N ≤ 8796093022208) : Few N ds := by
  refine ⟨by rw [wD_wE] at h; omega, fun d hd => ?_⟩
  have q := wD_mem hd
  have e : wD d = 1 + d.old.length + d.nw.length := rfl
  omega
theorem tn_tn (d : Dl) : tn (tn d) = d := rfl
theorem turnD_turnD (ds : List Dl) : turnD (turnD ds) = ds := by
  unfold turnD
  rw [← List.map_reverse, List.reverse_reverse, List.map_map]
  have : (tn ∘ tn) = id := by funext d; rfl
  rw [this, List.map_id]
theorem few_turn {ds : List Dl} {N : Nat} (h : Few N ds) : Few N (turnD ds) := by
  refine ⟨by rw [turnD_len]; exact h.1, fun d hd => ?_⟩
  unfold turnD at hd
  obtain ⟨d', hd', rfl⟩ := List.mem_map.1 hd
  have := h.2 d' (by simpa using hd')
  exact ⟨this.2, this.1⟩
end Go.Proofs.Ytomiblpgjkmmcaa
/- UndoOn, walked. -/
namespace Go.Proofs.Ytomiblpgjkmmcaa
open Go.ChangeShapes Go.WideShapes Go.ChangeAt Go.RowKit
set_option linter.unusedVariables false
set_option linter.unusedSimpArgs false
set_option maxRecDepth 100000
/-- States that were all made from the first one. -/
structure Star (m : Tr) (i : Nat) : Prop where
  inv : Inv m
  now : m.now = 0
  next : m.next = (i : Int) + 1
  len : m.L.length = i + 1
  most : m.most = 200
  root : ∃ s, look m.L 0 = some s ∧ s.fr = -1
  kid : ∀ j : Nat, 1 ≤ j → j ≤ i → ∃ s, look m.L j = some s ∧ s.fr = 0 ∧ s.by_ = [⟨(j : Int) - 1, [], []⟩]
theorem add_at {B C t : Nat} {m : Tr} {w : World} (h : Tw B C t m w) (I : Inv m) (hn : m.next ≤ 10000) (hm : (m.L.length : Int) + 1 ≤ m.most) (hB : B ≤ w.heap.size) (x : Int) :
    Calls Try.prog 12 #[.pointer (some ⟨t, 0, none⟩), .slice (some ⟨w.heap.size, 0, none⟩) 1 1] (w.alloc (.cells #[.int .i64 x, .slice none 0 0, .slice none 0 0] 35)) fun e w' => e = .returned (.int .i64 m.next) ∧ Tw B w'.heap.size t (addT m [⟨x, [], []⟩]) w' ∧ Ff TP B w w' := by
  have k : Kp w (w.alloc (.cells #[.int .i64 x, .slice none 0 0, .slice none 0 0] 35)) := kp_alloc _ _
  have b2 := Lc.new w [.int .i64 x, .slice none 0 0, .slice none 0 0] 35
  have hd : Dr (fun _ => True) (Row 0) (.slice (some ⟨w.heap.size, 0, none⟩) 1 1) [⟨x, [], []⟩] _ := Dr.one (d := ⟨x, [], []⟩) (row_nil0 0 _) (row_nil0 0 _) b2
  refine (add_few (h.kp k) I.fam hn I.nodup I.nw hm (Nat.le_trans hB k.size) (okRow 0 0) hd (few_one _ (by simp) (by simp)) (by omega)).mono ?_
  rintro e w' ⟨rfl, q1, q2⟩
  exact ⟨rfl, q1, (Ff.kp k).trans q2⟩
theorem star_first : Star (first 200) 0 := ⟨inv_first 200, rfl, rfl, rfl, rfl, ⟨_, rfl, rfl⟩, fun j h1 h2 => by omega⟩
theorem few_at (x : Int) : Few 2000 [⟨x, [], []⟩] := few_one _ (by simp) (by simp)
section
variable {m : Tr} {i : Nat}
theorem Star.new (h : Star m i) : look (addT m [⟨(i : Int), [], []⟩]).L (addT m [⟨(i : Int), [], []⟩]).now = some ⟨(i : Int) + 1, 0, -1, [⟨(i : Int), [], []⟩]⟩ := by
  show look _ m.next = _
  rw [addT_look h.inv, if_pos rfl, h.next, h.now]
theorem Star.step (h : Star m i) : Star { addT m [⟨(i : Int), [], []⟩] with now := 0 } (i + 1) := by
  have hI := h.inv.add (few_at (i : Int))
  have hn := h.next
  refine ⟨?_, rfl, ?_, ?_, h.most, ?_, fun j h1 h2 => ?_⟩
  · have := hI.up h.new (by show (0 : Int) ≠ -1; decide)
    exact this
  · show m.next + 1 = _; rw [hn]; omega
  · show (addT m _).L.length = _; rw [addT_len, h.len]
  · obtain ⟨s, h1, h2⟩ := h.root
    refine ⟨{ s with on := m.next }, ?_, h2⟩
    show look (addT m _).L 0 = _
    rw [addT_look h.inv, if_neg (by omega), h1, h.now]; simp
  · show ∃ s, look (addT m _).L j = some s ∧ _
    rw [addT_look h.inv]
    by_cases q : j = i + 1
    · subst q
      rw [if_pos (by omega), h.now]
      exact ⟨_, rfl, rfl, by simp⟩
    · obtain ⟨s, k1, k2, k3⟩ := h.kid j h1 (by omega)
      rw [if_neg (by omega), k1, h.now]
      have : ¬ (j : Int) = 0 := by omega
      rw [Option.map_some, if_neg this]
      exact ⟨_, rfl, k2, k3⟩
theorem Star.meet (h : Star m i) {k : Nat} (h1 : 1 ≤ k) (h2 : k ≤ i) {top : Int} {l1 l2 : List Int} (hm : Meet m.L m.now k top l1 l2) : top = 0 ∧ l1 = [] ∧ l2 = [(k : Int)] := by
  obtain ⟨s, r1, r2⟩ := h.root
  obtain ⟨s', k1, k2, k3⟩ := h.kid k h1 h2
  have u1 := hm.u1
  rw [h.now] at u1
  cases u1 with
  | nil =>
    refine ⟨rfl, rfl, ?_⟩
    have u2 := hm.u2
    obtain ⟨s2, r, j1, rfl, j2, j3⟩ := u2.head (by rintro rfl; generalize hkk : (k : Int) = kk at u2; cases u2; omega)
    rw [k1] at j1; cases j1
    rw [k2] at j3
    rw [h.inv.fam.up_self j3]
  | cons a1 a2 a3 => rw [r1] at a1; cases a1; exact absurd r2 a2
end
set_option maxHeartbeats 32000000 in
theorem on_walk (a : Nat) (ha : a < 256) (b : Nat) (hb : b < 256) {W : World} :
    Calls Try.prog 4 #[.int .u8 a, .int .u8 b] W fun e w' => e = .returned (.bool true) ∧ Below W.heap.size W w' := by
  have HN : Hid _ := new_any (most := 200) (by decide) (by decide) W
  have he := eqlT
  obtain ⟨n, hn⟩ : ∃ n, a % 30 = n := ⟨_, rfl⟩
  have hn30 : n < 30 := by omega
  have ea : (a : Int) % 30 = (n : Int) := by omega
  have eat : Int.tmod (a : Int) 30 = (n : Int) := by rw [Int.tmod_eq_emod_of_nonneg (by omega)]; exact ea
  obtain ⟨k, hk⟩ : ∃ k, b % (n + 1) = k := ⟨_, rfl⟩
  have hkn : k < n + 1 := by rw [← hk]; exact Nat.mod_lt _ (by omega)
  have eb : Int.tmod (b : Int) (1 + (n : Int)) = (k : Int) := by rw [Int.tmod_eq_emod_of_nonneg (by omega), ← hk, show (1 + (n : Int)) = ((n + 1 : Nat) : Int) by omega]; rfl
  go_enter Try.func4, Try.ntmps4
  go_wp2_with fail
  refine Calls.mono HN.out ?_
  rintro e w1 ⟨t, rfl, t1, k1⟩
  have HK : Hid _ := known_any w1
  have H1 : Hid (Kp W w1 ∧ Tw W.heap.size W.heap.size t (first 200) w1) := ⟨k1, t1⟩
  clear HN t1 k1
  go_wp2_with fail
  refine Calls.mono HK.out ?_
  rintro e w2 ⟨rfl, k2⟩
  have H2 : Hid (Kp W w2 ∧ Tw W.heap.size W.heap.size t (first 200) w2) := ⟨kp_trans H1.out.1 k2, H1.out.2.kp k2⟩
  clear HK H1 k2
  go_wp2_with fail
  go_loopw [7] (fun v7 wr => ∃ i : Nat, i ≤ n + 1 ∧ v7 = .int .i64 i ∧ Hid (∃ m C, Star m i ∧ Tw W.heap.size C t m wr ∧ Kp W wr)) (fun v7 _ => n + 1 - (intOf v7).toNat)
  case atStart => exact ⟨0, Nat.zero_le _, rfl, first 200, _, star_first, H2.out.2, H2.out.1⟩
  case round =>
    clear H2
    obtain ⟨i, hi, rfl, HI⟩ := hrel
    by_cases q : i < n + 1
    · have d1 : decide ((i : Int) < 1 + (n : Int)) = true := decide_eq_true (by omega)
      obtain ⟨m, C, hs, ht, kk⟩ := HI.out
      have HA : Hid _ := add_at ht hs.inv (by rw [hs.next]; omega) (by rw [hs.len, hs.most]; omega) kk.size (i : Int)
      have HS : Hid (Star m i ∧ Kp W wr) := ⟨hs, kk⟩
      clear HI hs ht kk
      go_wp2_with fail
      refine Calls.mono HA.out ?_
      rintro e w3 ⟨rfl, t3, f3⟩
      have HU : Hid _ := undo_any t3 (by show Rg m.next; rw [HS.out.1.next]; constructor <;> omega) HS.out.1.new (by show (0 : Int) ≠ -1; decide) (few_at (i : Int)) (by omega)
      have H3 : Hid (Star { addT m [⟨(i : Int), [], []⟩] with now := 0 } (i + 1) ∧ Kp W w3) := ⟨HS.out.1.step, HS.out.2.trans (f3.below HS.out.2.size)⟩
      clear HA HS t3 f3
      go_wp2_with fail
      refine Calls.mono HU.out ?_
      rintro e w4 ⟨v4, rfl, d4, t4, f4⟩
      have H4 : Hid (∃ m C, Star m (i + 1) ∧ Tw W.heap.size C t m w4 ∧ Kp W w4) := ⟨_, _, H3.out.1, t4, H3.out.2.trans (f4.below H3.out.2.size)⟩
      clear HU H3 d4 t4 f4
      go_wp2_with fail
      go_roundw
      case rel => exact ⟨i + 1, by omega, by go_num, H4.out⟩
      case measure => simp only [intOf]; omega
    · obtain rfl : i = n + 1 := by omega
      have d1 : decide (((n + 1 : Nat) : Int) < 1 + (n : Int)) = false := decide_eq_false (by omega)
      obtain ⟨m, C, hs, ht, kk⟩ := HI.out
      obtain ⟨sk, hk1, hk2, hk3⟩ := hs.kid (k + 1) (by omega) (by omega)
      have ek : ((k + 1 : Nat) : Int) = 1 + (k : Int) := by omega
      have HG : Hid _ := go_any (seq := ((k + 1 : Nat) : Int)) ht.sized (Nat.le_refl _) hs.inv.fam (by rw [hs.next]; omega) hs.inv.nw (by rw [hk1]; simp)
      rw [ek] at HG
      have HS : Hid (Star m (n + 1) ∧ Kp W wr ∧ look m.L (1 + (k : Int)) = some sk ∧ sk.fr = 0 ∧ sk.by_ = [⟨(k : Int), [], []⟩]) := ⟨hs, kk, by rw [← ek]; exact hk1, hk2, by rw [hk3, show ((k + 1 : Nat) : Int) - 1 = (k : Int) by omega]⟩
      have ekk : 1 + (k : Int) - 1 = (k : Int) := by omega
      clear HI hs ht kk hk1 hk2 hk3
      go_wp2_with fail
      refine Calls.mono HG.out ?_
      rintro e w3 ⟨v3, rfl, top, l1, l2, hm, d3, t3, f3⟩
      rw [← ek] at hm
      obtain ⟨rfl, rfl, rfl⟩ := HS.out.1.meet (by omega) (by omega) hm
      rw [ek] at t3
      have ekl : look (led m.L [1 + (k : Int)] 0) (1 + (k : Int)) = some sk := by
        show look (setOn m.L 0 (1 + (k : Int))) (1 + (k : Int)) = _
        rw [look_on, HS.out.2.2.1, Option.map_some, if_neg (by omega)]
      obtain ⟨s0, hs0, _⟩ := HS.out.1.root
      have ek0 : look (led m.L [1 + (k : Int)] 0) 0 = some { s0 with on := 1 + (k : Int) } := by
        show look (setOn m.L 0 (1 + (k : Int))) 0 = _
        rw [look_on, hs0, Option.map_some, if_pos rfl]
      have HU : Hid _ := undo_any (m := { m with L := led m.L [1 + (k : Int)] 0, now := 1 + (k : Int) }) t3 (rg_of (x := 1 + (k : Int)) ⟨by omega, by omega⟩) ekl (by rw [HS.out.2.2.2.1]; decide) (N := 2000) (by rw [HS.out.2.2.2.2]; exact few_at _) (by omega)
      have H3 : Hid (Kp W w3) := HS.out.2.1.trans (f3.below HS.out.2.1.size)
      have HX : Hid (look (led m.L [1 + (k : Int)] 0) (1 + (k : Int)) = some sk ∧ look (led m.L [1 + (k : Int)] 0) 0 = some { s0 with on := 1 + (k : Int) } ∧ sk.fr = 0 ∧ sk.by_ = [⟨(k : Int), [], []⟩]) := ⟨ekl, ek0, HS.out.2.2.2⟩
      clear HG HS hm d3 t3 f3 ekl ek0 hs0
      go_wp2_with fail
      refine Calls.mono HU.out ?_
      rintro e w4 ⟨v4, rfl, d4, t4, f4⟩
      have H4 : Hid (Kp W w4) := H3.out.trans (f4.below H3.out.size)
      rw [HX.out.2.2.1] at t4
      have HR : Hid _ := redo_any (m := { m with L := led m.L [1 + (k : Int)] 0, now := 0 }) t4 (rg_of (x := 0) ⟨by decide, by decide⟩) HX.out.2.1 (by show 1 + (k : Int) ≠ -1; omega) (rg_of (x := 1 + (k : Int)) ⟨by omega, by omega⟩) (s' := sk) (by exact HX.out.1) (N := 2000) (by rw [HX.out.2.2.2]; exact few_at _) (by omega)
      clear HU H3 d4 t4 f4
      go_wp2_with fail
      refine Calls.mono HR.out ?_
      rintro e w5 ⟨v5, rfl, d5, t5, f5⟩
      rw [HX.out.2.2.2] at d5
      have H5 : Hid (Kp W w5 ∧ Dw w4.heap.size v5 [⟨(k : Int), [], []⟩] w5) := ⟨H4.out.trans (f5.below H4.out.size), d5⟩
      have HW : Hid _ := now_any t5
      obtain ⟨a5, c5, rfl, _⟩ := d5.form
      have HS2 : Hid (Calls Try.prog 20 #[.slice a5 1 c5, .slice (some ⟨w5.heap.size, 0, none⟩) 1 1] (w5.alloc (.cells #[.int .i64 (k : Int), .slice none 0 0, .slice none 0 0] 35)) fun e w' => e = .returned (.bool true) ∧ ∃ q, w' = (w5.alloc (.cells #[.int .i64 (k : Int), .slice none 0 0, .slice none 0 0] 35)).drewN q) := by
        exact same_eq (okRow w4.heap.size w4.heap.size) (okRow 0 0) (H5.out.2.kp (okRow _ _) (kp_alloc _ _)).dr (Dr.one (d := ⟨(k : Int), [], []⟩) (row_nil0 0 _) (row_nil0 0 _) (Lc.new w5 _ _))
      clear HR H4 HX d5 t5 f5
      go_wp2_with fail
      refine Calls.mono HW.out ?_
      rintro e w6 ⟨rfl, rfl⟩
      clear HW
      go_wp2_with fail
      refine Calls.mono HS2.out ?_
      rintro e w7 ⟨rfl, q7, rfl⟩
      clear HS2
      go_wp2_with fail
      go_ret
      exact ⟨rfl, kp_trans (kp_trans H5.out.1 (kp_alloc _ _)) (kp_drewN _ _)⟩
end Go.Proofs.Ytomiblpgjkmmcaa
