/- For every list of lines and every list of calls the statement TreeOwn returns true; no condition. -/
import Derived.Test.YtfnhbjokokjhfabHeavy
import Derived.ShutString
import Derived.ChangeOld
namespace Go.Proofs.Ytfnhbjokokjhfab.treeOwn
open Go.ChangeShapes Go.WideShapes Go.ChangeAt Go.RowKit
open Go.ChangeMaps (open_string shut_string)
set_option linter.unusedVariables false

theorem own : ownKnob Try.prog.godebug = none := by kernel_rfl
theorem laidOut : laidOutB Try.prog = true := by kernel_rfl

section
variable {B : Nat} {W wr w' : World} {t u r m mu : Nat} {ls ms : List ByteArray} {bx : List (Nat × Obj)} {lv : Value} {o ou : Own}
theorem repx_blocks {s : St} {vn vg : Value} (h : Rep o wr t s vn vg) (hk : ∀ k, o k ≠ .free → w'.heap[k]? = wr.heap[k]?) (hs : ∀ k, o k ≠ .free → k < w'.heap.size) : Rep o w' t s vn vg :=
  ⟨h.ot, by rw [hk t (by rw [h.ot]; simp)]; exact h.tree, h.nodes.same fun b hb => hk b (by rw [h.nodes.2 b hb]; simp), h.gone.same fun b hb => hk b (by rw [h.gone.2 b hb]; simp),
    fun i n hi hx => (h.lines i n hi hx).same fun b hb => hk b (by rw [(h.lines i n hi hx).2 b hb]; simp), fun i n hi hx => (h.kids i n hi hx).same fun b hb => hk b (by rw [(h.kids i n hi hx).2 b hb]; simp),
    fun j hj => hs j hj⟩
theorem tr_blocks (h : Tr o wr t ls m) (hk : ∀ k, o k ≠ .free → w'.heap[k]? = wr.heap[k]?) (hs : ∀ k, o k ≠ .free → k < w'.heap.size) : Tr o w' t ls m := by
  obtain ⟨s, vn, vg, d, h1, h2, h3⟩ := h
  exact ⟨s, vn, vg, d, repx_blocks h1 hk hs, h2, h3⟩
/-- The blocks of a tree, as they are. -/
def blocksOf (o : Own) (w : World) : List (Nat × Obj) := (List.range w.heap.size).filterMap fun k => if o k = .free then none else (w.heap[k]?).map fun ob => (k, ob)
theorem mem_blocks {x : Nat × Obj} (h : x ∈ blocksOf o wr) : wr.heap[x.1]? = some x.2 ∧ o x.1 ≠ .free := by
  obtain ⟨k, _, e⟩ := List.mem_filterMap.1 h
  split at e
  · cases e
  · rename_i hne
    obtain ⟨ob, h1, h2⟩ := Option.map_eq_some_iff.1 e
    subst h2
    exact ⟨h1, hne⟩
theorem blocks_mem {k : Nat} {ob : Obj} (h : wr.heap[k]? = some ob) (ho : o k ≠ .free) : (k, ob) ∈ blocksOf o wr := by
  refine List.mem_filterMap.2 ⟨k, List.mem_range.2 (Array.getElem?_eq_some_iff.1 h).1, ?_⟩
  rw [if_neg ho, h]; rfl
/-- The blocks of the second tree are kept, so it is as it was. -/
theorem two_tree {w0 : World} (h : Two B W wr t r ls ls m (blocksOf ou w0)) (hu : Tr ou w0 u ms mu) : Tr ou wr u ms mu := by
  have hq : ∀ k, ou k ≠ .free → ∃ ob, w0.heap[k]? = some ob ∧ wr.heap[k]? = some ob := fun k hk => by
    have hlt := hu.lt k hk
    have e : w0.heap[k]? = some (w0.heap[k]'hlt) := Array.getElem?_eq_getElem hlt
    exact ⟨_, e, h.obj (blocks_mem e hk)⟩
  refine tr_blocks hu (fun k hk => ?_) (fun k hk => ?_)
  · obtain ⟨ob, e1, e2⟩ := hq k hk
    rw [e1, e2]
  · obtain ⟨ob, e1, e2⟩ := hq k hk
    exact (Array.getElem?_eq_some_iff.1 e2).1
structure Ou (B : Nat) (W : World) (t u r : Nat) (ls ms : List ByteArray) (m : Nat) (bx : List (Nat × Obj)) (lv : Value) (wr : World) : Prop where
  two : Two B W wr t r ls ls m bx
  cell : wr.cell? ⟨r, 0, none⟩ = some lv
  lies : Lies nobody wr lv ls
  lt : r < wr.heap.size
  tree : ∃ ou mu, Tr ou wr u ms mu
theorem ou_under (h : Ou B W t u r ls ms m bx lv wr) (hb : Below wr.heap.size wr w') : Ou B W t u r ls ms m bx lv w' := by
  obtain ⟨ou, mu, q⟩ := h.tree
  exact ⟨h.two.under hb, by have := h.cell; simp only [World.cell?, hb.block r h.lt] at this ⊢; exact this, h.lies.below hb (Nat.le_refl _), Nat.lt_of_lt_of_le h.lt hb.size, ou, mu, q.below hb⟩
theorem told_lines {v : Value} (hT : Told wr v ls w') : ∃ gb, v = .slice (some ⟨gb, 0, none⟩) ls.length ls.length ∧ Lies nobody w' (.slice (some ⟨gb, 0, none⟩) ls.length ls.length) ls ∧ Below wr.heap.size wr w' := by
  have hL := hT.lies
  obtain ⟨gb, e, _⟩ := hT.2
  subst e
  exact ⟨gb, rfl, hL, hT.1⟩
theorem ou_ulines (h : Ou B W t u r ls ms m bx lv wr) (hl : ms.length < 2 ^ 38) : Calls Try.prog 7 #[.pointer (some ⟨u, 0, none⟩)] wr fun e w' => ∃ gb, e = .returned (.slice (some ⟨gb, 0, none⟩) ms.length ms.length) ∧ Lies nobody w' (.slice (some ⟨gb, 0, none⟩) ms.length ms.length) ms ∧ Ou B W t u r ls ms m bx lv w' := by
  obtain ⟨ou, mu, q⟩ := h.tree
  refine (lines_any q hl).mono ?_
  rintro e w' ⟨v, rfl, hT⟩
  obtain ⟨gb, rfl, h1, h2⟩ := told_lines hT
  exact ⟨gb, rfl, h1, ou_under h h2⟩
theorem ou_tlines (h : Ou B W t u r ls ms m bx lv wr) (hl : ls.length < 2 ^ 38) : Calls Try.prog 7 #[.pointer (some ⟨t, 0, none⟩)] wr fun e w' => ∃ gb, e = .returned (.slice (some ⟨gb, 0, none⟩) ls.length ls.length) ∧ Lies nobody w' (.slice (some ⟨gb, 0, none⟩) ls.length ls.length) ls ∧ Ou B W t u r ls ms m bx lv w' := by
  obtain ⟨o, h1, _⟩ := h.two.ex
  refine (lines_any h1 hl).mono ?_
  rintro e w' ⟨v, rfl, hT⟩
  obtain ⟨gb, rfl, h1, h2⟩ := told_lines hT
  exact ⟨gb, rfl, h1, ou_under h h2⟩
/-- What was told, some of it written over: a block of texts of its own. -/
def Texts (w0 : World) (gb L i : Nat) (w' : World) : Prop := Below w0.heap.size w0 w' ∧ w0.heap.size ≤ gb ∧ gb < w'.heap.size ∧ ∃ cur : Array Value, w'.heap[gb]? = some (.cells cur 9 (0, 0)) ∧ ∀ j, j < L → ∃ s : ByteArray, cur[j]? = some (.string s) ∧ (i ≤ j → s.size ≤ reachBytes)
theorem texts_told {v : Value} (hT : Told wr v ms w') (h0 : 0 < ms.length) (hz : ∀ y ∈ ms, y.size ≤ reachBytes) : ∃ gb, v = .slice (some ⟨gb, 0, none⟩) ms.length ms.length ∧ Texts wr gb ms.length 0 w' := by
  obtain ⟨hb, gb, rfl, ho⟩ := hT
  refine ⟨gb, rfl, hb, ?_⟩
  rcases ho.2 with ⟨e1, e2⟩ | ⟨b, cap', cur, e1, hge, hg', r1, r2, r3, r4⟩
  · exact absurd e2 (by omega)
  · injection e1 with e1 _ _
    injection e1 with e1
    injection e1 with e1 _ _
    subst e1
    refine ⟨hge, (Array.getElem?_eq_some_iff.1 hg').1, cur, hg', fun j hj => ?_⟩
    have hy : (strs ms)[j]? = some (.string (ms[j]'hj)) := by simp [strs, List.getElem?_eq_getElem hj]
    refine ⟨ms[j]'hj, ?_, fun _ => hz _ (List.getElem_mem hj)⟩
    rw [← r4, List.getElem?_take] at hy
    split at hy
    · simpa using hy
    · cases hy
theorem texts_drewN {w0 : World} {gb L i : Nat} (h : Texts w0 gb L i wr) (q : Nat) : Texts w0 gb L i (wr.drewN q) := by
  obtain ⟨h1, h2, h3, cur, h4, h5⟩ := h
  have hs := below_drewN wr q
  exact ⟨h1.trans (below_mono hs h1.size), h2, Nat.lt_of_lt_of_le h3 hs.size, cur, by rw [drewN_heap]; exact h4, h5⟩
theorem texts_at {w0 : World} {gb L i : Nat} (h : Texts w0 gb L i wr) (hi : i < L) : ∃ s : ByteArray, wr.cell? ⟨gb, i, none⟩ = some (.string s) ∧ wr.frozen? ⟨gb, i, none⟩ = false ∧ s.size ≤ reachBytes ∧ ∀ s' : ByteArray, Texts w0 gb L (i + 1) (wr.setCell ⟨gb, i, none⟩ (.string s')) := by
  obtain ⟨h1, h2, h3, cur, h4, h5⟩ := h
  obtain ⟨s, e, hz⟩ := h5 i hi
  have hil := (Array.getElem?_eq_some_iff.1 e).1
  refine ⟨s, by simp [World.cell?, h4, e], by simp [World.frozen?, h4], hz (Nat.le_refl _), fun s' => ⟨?_, h2, by rw [size_setCell]; exact h3, _, heap_setCell h4, fun j hj => ?_⟩⟩
  · refine ⟨h1.os, h1.tape, h1.output, by rw [size_setCell]; exact h1.size, fun k hk => ?_⟩
    rw [heap_setCell_other (by omega)]; exact h1.block k hk
  · by_cases hji : j = i
    · subst hji
      exact ⟨s', by rw [Array.getElem?_setIfInBounds_self, if_pos hil], fun h => by omega⟩
    · obtain ⟨s2, e2, z2⟩ := h5 j hj
      exact ⟨s2, by rw [Array.getElem?_setIfInBounds_ne (Ne.symm hji)]; exact e2, fun h => z2 (by omega)⟩
end
theorem walk_out (W : World) (a a' : Option Addr) (L cap P cap' : Nat) (hh : Calls Try.prog 4 #[.slice a L cap, .slice a' P cap'] W fun e w' => e = .returned (.bool true) ∧ ∃ q, w' = W.drewN q) :
    Calls Try.prog 3 #[.slice a L cap, .slice a' P cap'] W fun e w' => e = .returned (.bool true) ∧ Below W.heap.size W w' := by
  have HH : Hid (Calls Try.prog 4 #[.slice a L cap, .slice a' P cap'] W fun e w' => e = .returned (.bool true) ∧ ∃ q, w' = W.drewN q) := hh
  clear hh
  go_enter Try.func3, Try.ntmps3
  go_wp2_with fail
  refine HH.out.mono ?_
  rintro e x0 ⟨rfl, q, rfl⟩
  go_wp2_with fail
  refine (known_any _).mono ?_
  rintro e x1 ⟨rfl, hb1⟩
  have HB1 : Hid (Below W.heap.size W x1) := (below_drewN W q).trans hb1
  clear hb1
  go_wp2_with fail
  go_ret
  exact ⟨rfl, HB1.out⟩
set_option maxHeartbeats 8000000 in
set_option maxRecDepth 100000 in
theorem walk_in (W : World) (ms : List ByteArray) (ps : List OpD) (v v' : Value) (hv : Lies nobody W v ms) (hn : ∀ n c, v = .slice none n c → n = 0 ∧ c = 0) (hv' : OpsAt W v' ps) (h : ms.length ≤ 300) (h' : ps.length ≤ 200) (hp : ∀ p ∈ ps, p.l.length ≤ 50) (hz : ∀ p ∈ ps, OpSz p) (hy : ∀ y ∈ ms, y.size ≤ reachBytes) :
    Calls Try.prog 3 #[v, v'] W fun e w' => e = .returned (.bool true) ∧ Below W.heap.size W w' := by
  have hr := reachBytes_lt
  have hsm : sizes ms < 2 ^ 60 := by
    have := sizes_le hy
    have : ms.length * reachBytes ≤ 300 * reachBytes := Nat.mul_le_mul_right _ h
    omega
  obtain ⟨a, cap, rfl, c1, c2⟩ := hv.form
  have HM : Hid (sizes ms < 2 ^ 60 ∧ (∀ y ∈ ms, y.size ≤ reachBytes) ∧ (∀ p ∈ ps, p.l.length ≤ 50) ∧ ∀ p ∈ ps, OpSz p) := ⟨hsm, hy, hp, hz⟩
  have HV : Hid (Lies nobody W (.slice a ms.length cap) ms ∧ ∀ n c, (Value.slice a ms.length cap) = .slice none n c → n = 0 ∧ c = 0) := ⟨hv, hn⟩
  have HP : Hid (OpsAt W v' ps) := hv'
  obtain ⟨a', cap', rfl, p1, p2, _⟩ := hv'
  obtain ⟨L, hL⟩ : ∃ L, ms.length = L := ⟨_, rfl⟩
  obtain ⟨P, hP⟩ : ∃ P, ps.length = P := ⟨_, rfl⟩
  have HL : Hid (ms.length = L ∧ ps.length = P) := ⟨hL, hP⟩
  rw [hL] at c1 h HV ⊢
  rw [hP] at p1 h' HP ⊢
  have HH : Hid (Calls Try.prog 4 #[.slice a L cap, .slice a' P cap'] W fun e w' => e = .returned (.bool false) ∧ ∃ q, w' = W.drewN q) := by
    have := heavy_any W a a' L cap P cap' ps hP HP.out h h'
    rw [show (ps.any fun p => decide (50 < p.l.length)) = false by
      rw [List.any_eq_false]; intro p hq; have := hp p hq; simp; omega] at this
    exact this
  unfold maxLen at c2 p2
  clear hv hn hp hz hy hL hP hsm
  go_enter Try.func3, Try.ntmps3
  go_wp2_with fail
  refine HH.out.mono ?_
  rintro e x0 ⟨rfl, q, rfl⟩
  clear HH
  go_wp2_with fail
  refine (known_any _).mono ?_
  rintro e x1 ⟨rfl, hb1⟩
  have HB1 : Hid (Below W.heap.size W x1) := (below_drewN W q).trans hb1
  clear hb1
  go_wp2_with fail
  refine (new_any (HV.out.1.below HB1.out (Nat.le_refl _)) (by rw [HL.out.1]; omega) (by have := HM.out.1; omega)).mono ?_
  rintro e x2 ⟨rfl, ha⟩
  obtain ⟨t, ht⟩ : ∃ t, x1.heap.size = t := ⟨_, rfl⟩
  rw [ht] at ha ⊢
  have HA : Hid (After nobody x1 t ms (1 + 22 * ms.length) x2 ∧ Below W.heap.size W x2) := ⟨ha, by
    obtain ⟨oa, a1, a2⟩ := ha
    exact HB1.out.trans ((old_nobody (B := W.heap.size)).keeps a2 HB1.out.size).2⟩
  clear ha ht
  go_wp2_with fail
  refine (new_any (HV.out.1.below HA.out.2 (Nat.le_refl _)) (by rw [HL.out.1]; omega) (by have := HM.out.1; omega)).mono ?_
  rintro e x3 ⟨rfl, hu⟩
  obtain ⟨u, hut⟩ : ∃ u, x2.heap.size = u := ⟨_, rfl⟩
  rw [hut] at hu ⊢
  have HU : Hid (∃ ot ou, Tr ot x3 t ms (1 + 22 * ms.length) ∧ Tr ou x3 u ms (1 + 22 * ms.length) ∧ Apart ot ou ∧ Old W.heap.size ot ∧ Old W.heap.size ou ∧ Below W.heap.size W x3) := by
    obtain ⟨oa, a1, a2⟩ := HA.out.1
    obtain ⟨ou, b1, b2⟩ := hu
    obtain ⟨c1, c2⟩ := a1.kept apart_nobody b2
    obtain ⟨d1, d2⟩ := (old_nobody (B := W.heap.size)).keeps a2 HB1.out.size
    obtain ⟨e1, e2⟩ := (old_nobody (B := W.heap.size)).keeps b2 HA.out.2.size
    exact ⟨oa, ou, c1, b1, c2, d1, e1, HA.out.2.trans e2⟩
  clear hu hut HA HB1
  have HLT : Hid (Calls Try.prog 7 #[.pointer (some ⟨t, 0, none⟩)] x3 fun e w' => ∃ gb, e = .returned (.slice (some ⟨gb, 0, none⟩) L L) ∧ Below x3.heap.size x3 w' ∧ (0 < L → Texts x3 gb L 0 w')) := by
    obtain ⟨ot, ou, q, _⟩ := HU.out
    have := lines_any q (by rw [HL.out.1]; omega)
    refine this.mono ?_
    rintro e w' ⟨v, rfl, hT⟩
    have hT' := hT
    obtain ⟨hb, gb, rfl, _⟩ := hT
    rw [HL.out.1]
    refine ⟨gb, rfl, hb, fun h0 => ?_⟩
    obtain ⟨gb', e, q⟩ := texts_told hT' (by rw [HL.out.1]; exact h0) HM.out.2.1
    injection e with e _ _
    injection e with e
    injection e with e _ _
    subst e
    rw [HL.out.1] at q; exact q
  go_wp2_with fail
  refine HLT.out.mono ?_
  rintro e x4 ⟨gb, rfl, hb4, ht4⟩
  have H4 : Hid (Below x3.heap.size x3 x4 ∧ (0 < L → Texts x3 gb L 0 x4)) := ⟨hb4, ht4⟩
  clear hb4 ht4 HLT
  go_wp2_with fail
  go_loopw [8] (fun vi wr => ∃ i : Nat, i ≤ L ∧ vi = .int .i64 i ∧ Below x3.heap.size x3 wr ∧ (i < L → Texts x3 gb L i wr)) (fun vi _ => L - (intOf vi).toNat)
  case atStart => exact ⟨0, Nat.zero_le _, rfl, H4.out.1, H4.out.2⟩
  case round =>
    obtain ⟨i, hi, rfl, hbr, htr⟩ := hrel
    by_cases hlt : i < L
    · have hd3 : decide ((i : Int) < (L : Int)) = true := by simp; omega
      obtain ⟨s, s1, s2, s3, s4⟩ := texts_at (htr hlt) hlt
      have HS : Hid (∀ s' : ByteArray, Texts x3 gb L (i + 1) (wr.setCell ⟨gb, i, none⟩ (.string s'))) := s4
      clear hbr htr s4
      go_wp2_with fail
      go_roundw
      case rel => exact ⟨i + 1, by omega, by go_num, (HS.out _).1, fun _ => HS.out _⟩
      case measure => simp [intOf]; omega
    · obtain rfl : i = L := by omega
      have hd3 : decide ((i : Int) < (i : Int)) = false := by simp
      have HB5 : Hid (Below W.heap.size W wr ∧ ∃ ot ou, Tr ot wr t ms (1 + 22 * ms.length) ∧ Tr ou wr u ms (1 + 22 * ms.length) ∧ Apart ot ou ∧ Old W.heap.size ot) := by
        obtain ⟨ot, ou, q1, q2, q3, q4, q5, q6⟩ := HU.out
        exact ⟨q6.trans (below_mono hbr q6.size), ot, ou, q1.below hbr, q2.below hbr, q3, q4⟩
      clear hbr htr HU H4
      go_wp2_with fail
      refine (rnew_any (HV.out.1.below HB5.out.1 (Nat.le_refl _)) HV.out.2 (by rw [HL.out.1]; omega)).mono ?_
      rintro e x6 ⟨rfl, hb6, hrf⟩
      have H0 : Hid (∃ ou w0, Tr ou w0 u ms (1 + 22 * ms.length) ∧ Two W.heap.size W x6 t wr.heap.size ms ms 10000 (blocksOf ou w0)) := by
        obtain ⟨b5, ot, ou, q1, q2, q3, q4⟩ := HB5.out
        refine ⟨ou, wr, q2, ⟨⟨ot, (q1.below hb6).mono (by rw [HL.out.1]; omega), q4, hrf ot fun k hk => q1.lt k hk, fun x hx => ?_⟩, b5.trans (below_mono hb6 b5.size), Nat.le_refl _, b5.size⟩⟩
        obtain ⟨y1, y2⟩ := mem_blocks hx
        have hlt := (Array.getElem?_eq_some_iff.1 y1).1
        exact ⟨by rw [hb6.block _ hlt]; exact y1, q3.symm _ y2, by omega⟩
      clear hb6 hrf HB5
      obtain ⟨r, hr0⟩ : ∃ r, wr.heap.size = r := ⟨_, rfl⟩
      rw [hr0] at H0 ⊢
      clear hr0
      obtain ⟨bx, HX, HT0⟩ : ∃ bx, Hid (∃ ou w0, Tr ou w0 u ms (1 + 22 * ms.length) ∧ bx = blocksOf ou w0) ∧ Hid (Two W.heap.size W x6 t r ms ms 10000 bx) := by
        obtain ⟨ou, w0, q1, q3⟩ := H0.out
        exact ⟨_, ⟨ou, w0, q1, rfl⟩, q3⟩
      clear H0
      go_wp2_with fail
      go_loopw [10] (fun vi wr => ∃ (j : Nat) (ls : List ByteArray), j ≤ P ∧ vi = .int .i64 j ∧ ls.length ≤ 300 + 50 * j ∧ (∀ y ∈ ls, y.size ≤ reachBytes) ∧ Two W.heap.size W wr t r ls ls (10000 + 227920 * j) bx) (fun vi _ => P - (intOf vi).toNat)
      case atStart => exact ⟨0, ms, Nat.zero_le _, rfl, by rw [HL.out.1]; omega, HM.out.2.1, HT0.out⟩
      case round =>
        obtain ⟨j, ls, hj, rfl, hll, hys, hO⟩ := hrel
        by_cases hlt2 : j < P
        · have hd4 : decide ((j : Int) < (P : Int)) = true := by simp; omega
          have hx : ps[j]? = some (ps[j]'(by rw [HL.out.2]; exact hlt2)) := List.getElem?_eq_getElem _
          generalize ps[j]'(by rw [HL.out.2]; exact hlt2) = p at hx
          obtain ⟨b, off, rfl, hok, hc⟩ := HP.out.cell hx
          have hmem := List.mem_of_getElem? hx
          have HD : Hid (Calls Try.prog 9 #[.pointer (some ⟨t, 0, none⟩), .pointer (some ⟨r, 0, none⟩), .agg #[.int .u8 p.kind, .int .i64 p.i, .int .i64 p.n, .string p.s, p.lv]] wr fun e w' => e = .returned (.bool true) ∧ Done W.heap.size W t r ls (10000 + 227920 * j + 22 * (ls.length + 60)) bx w') :=
            does_any hO rfl p hok (HM.out.2.2.2 p hmem) (HM.out.2.2.1 p hmem) (by omega) (by omega) hys
          obtain ⟨k0, k1, k2, k3, k4⟩ := hc wr hO.below
          have HLL : Hid (ls.length ≤ 300 + 50 * j) := hll
          clear hx hc hok hmem hO hys hll
          go_wp2_with fail
          refine HD.out.mono ?_
          rintro e w2 ⟨rfl, ls', q1, q2, q3⟩
          have HT : Hid (Two W.heap.size W w2 t r ls' ls' (10000 + 227920 * (j + 1)) bx ∧ ls'.length ≤ 300 + 50 * (j + 1) ∧ ∀ y ∈ ls', y.size ≤ reachBytes) := ⟨q1.mono (by have := HLL.out; omega), by have := HLL.out; omega, q3⟩
          clear q1 q2 q3 HD k0 k1 k2 k3 k4
          go_wp2_with fail
          go_roundw
          case rel => exact ⟨j + 1, ls', by omega, by go_num, HT.out.2.1, HT.out.2.2, HT.out.1⟩
          case measure => simp [intOf]; omega
        · obtain rfl : j = P := by omega
          have hd4 : decide ((j : Int) < (j : Int)) = false := by simp
          have hls : ls.length ≤ 20000 := by omega
          obtain ⟨lv, d1, d2⟩ := two_lies hO
          obtain ⟨ra, rc, e, _⟩ := d2.form
          subst e
          have hOu : Ou W.heap.size W t u r ls ms (10000 + 227920 * j) bx (.slice ra ls.length rc) wr := ⟨hO, d1, d2, World.block_lt_of_cell? _ _ d1, by
            obtain ⟨ou, w0, q1, q2⟩ := HX.out
            rw [q2] at hO
            exact ⟨ou, _, two_tree hO q1⟩⟩
          obtain ⟨R, hR⟩ : ∃ R, ls.length = R := ⟨_, rfl⟩
          have F : Hid ((∀ x, Ou W.heap.size W t u r ls ms (10000 + 227920 * j) bx (.slice ra R rc) x → Calls Try.prog 7 #[.pointer (some ⟨u, 0, none⟩)] x fun e w' => ∃ gb, e = .returned (.slice (some ⟨gb, 0, none⟩) i i) ∧ Lies nobody w' (.slice (some ⟨gb, 0, none⟩) i i) ms ∧ Ou W.heap.size W t u r ls ms (10000 + 227920 * j) bx (.slice ra R rc) w') ∧
            (∀ x v, Lies nobody x v ms → Ou W.heap.size W t u r ls ms (10000 + 227920 * j) bx (.slice ra R rc) x → Calls Try.prog 10 #[v, .slice a i cap] x fun e w' => e = .returned (.bool true) ∧ Ou W.heap.size W t u r ls ms (10000 + 227920 * j) bx (.slice ra R rc) w') ∧
            (∀ x, Ou W.heap.size W t u r ls ms (10000 + 227920 * j) bx (.slice ra R rc) x → Calls Try.prog 7 #[.pointer (some ⟨t, 0, none⟩)] x fun e w' => ∃ gb, e = .returned (.slice (some ⟨gb, 0, none⟩) R R) ∧ Lies nobody w' (.slice (some ⟨gb, 0, none⟩) R R) ls ∧ Ou W.heap.size W t u r ls ms (10000 + 227920 * j) bx (.slice ra R rc) w') ∧
            (∀ x v, Lies nobody x v ls → Ou W.heap.size W t u r ls ms (10000 + 227920 * j) bx (.slice ra R rc) x → Calls Try.prog 10 #[v, .slice ra R rc] x fun e w' => e = .returned (.bool true) ∧ Ou W.heap.size W t u r ls ms (10000 + 227920 * j) bx (.slice ra R rc) w')) := by
            rw [← hR]
            have hL := HL.out.1
            refine ⟨fun x h => ?_, fun x v hv h => ?_, fun x h => ou_tlines h (by omega), fun x v hv h => ?_⟩
            · have := ou_ulines h (by omega)
              rw [hL] at this; exact this
            · refine (same_true hv (HV.out.1.below h.two.below (Nat.le_refl _)) (by omega)).mono ?_
              rintro e w' ⟨rfl, q, rfl⟩
              exact ⟨rfl, ou_under h (below_drewN _ _)⟩
            · refine (same_true hv h.lies (by omega)).mono ?_
              rintro e w' ⟨rfl, q, rfl⟩
              exact ⟨rfl, ou_under h (below_drewN _ _)⟩
          rw [hR] at hOu
          have HTL : Hid (Ou W.heap.size W t u r ls ms (10000 + 227920 * j) bx (.slice ra R rc) wr.drew) := ou_under hOu (below_drewN wr 1)
          have hTc : Tc ⟨r, 0, none⟩ (.slice ra R rc) wr.drew := HTL.out.cell
          have rule : ∀ w', Tc ⟨r, 0, none⟩ (.slice ra R rc) w' → w'.cell? ⟨r, 0, none⟩ = some (.slice ra R rc) := fun _ h => h
          clear hO hR hOu hls hys hll d1 d2
          go_wp2_with fail
          refine wp_region_noPanic ?_
          refine wp_region_held_drew (S := Tc ⟨r, 0, none⟩ (.slice ra R rc)) (by kernel_rfl) (hTc) (fun hHeld => ?_)
          refine takeAt 0 (some 60) ?_ rfl rfl (by kernel_rfl) (by kernel_rfl) (by kernel_rfl) (fun _ _ _ h => h) (Or.inl ⟨by rfl, ?_⟩) hHeld ?_
          rotate_left
          · intro w hSw
            go_simp <;> with_reducible rfl
          try simp only [Act.put, List.setIfInBounds_toArray, List.set_cons_zero, List.set_cons_succ]
          refine takeAt 2 (some 62) ?_ rfl rfl (by kernel_rfl) (by kernel_rfl) (by kernel_rfl) (fun _ _ _ h => h) (Or.inl ⟨by rfl, ?_⟩) hHeld ?_
          rotate_left
          · intro w hSw
            go_simp <;> with_reducible rfl
          try simp only [Act.put, List.setIfInBounds_toArray, List.set_cons_zero, List.set_cons_succ]
          refine callAt 1 61 7 (vals := #[.pointer (some ⟨u, 0, none⟩)]) (by kernel_rfl) rfl rfl rfl rfl (by simp [Act.eval]) Try.func7 (by kernel_rfl) (by kernel_rfl) ?_
          refine Calls.mono (F.out.1 _ HTL.out) ?_
          rintro e w7 ⟨gb, rfl, q⟩
          have G1 : Hid _ := q
          clear q
          refine ⟨_, rfl, show Tc _ _ _ from G1.out.2.cell, fun hHeld => ?_⟩
          try simp only [Act.put, List.setIfInBounds_toArray, List.set_cons_zero, List.set_cons_succ]
          refine callAt 3 63 10 (vals := #[.slice (some ⟨gb, 0, none⟩) i i, .slice a i cap]) (by kernel_rfl) rfl rfl rfl rfl (by simp [Act.eval]) Try.func10 (by kernel_rfl) (by kernel_rfl) ?_
          refine Calls.mono (F.out.2.1 _ _ G1.out.1 G1.out.2) ?_
          rintro e w8 ⟨rfl, q⟩
          have G2 : Hid _ := q
          clear q G1
          refine ⟨_, rfl, show Tc _ _ _ from G2.out.cell, fun hHeld => ?_⟩
          try simp only [Act.put, List.setIfInBounds_toArray, List.set_cons_zero, List.set_cons_succ]
          refine takeAt 4 (some 64) ?_ rfl rfl (by kernel_rfl) (by kernel_rfl) (by kernel_rfl) (fun _ _ _ h => h) (Or.inl ⟨by rfl, ?_⟩) hHeld ?_
          rotate_left
          · intro w hSw
            go_simp <;> with_reducible rfl
          try simp only [Act.put, List.setIfInBounds_toArray, List.set_cons_zero, List.set_cons_succ]
          refine takeAt 5 (some 65) ?_ rfl rfl (by kernel_rfl) (by kernel_rfl) (by kernel_rfl) (fun _ _ _ h => h) (Or.inl ⟨by rfl, ?_⟩) hHeld ?_
          rotate_left
          · intro w hSw
            go_simp <;> with_reducible rfl
          try simp only [Act.put, List.setIfInBounds_toArray, List.set_cons_zero, List.set_cons_succ]
          refine takeAt 7 (some 67) ?_ rfl rfl (by kernel_rfl) (by kernel_rfl) (by kernel_rfl) (fun _ _ _ h => h) (Or.inl ⟨by rfl, ?_⟩) hHeld ?_
          rotate_left
          · intro w hSw
            go_simp <;> with_reducible rfl
          try simp only [Act.put, List.setIfInBounds_toArray, List.set_cons_zero, List.set_cons_succ]
          refine takeAt 8 (some 68) ?_ rfl rfl (by kernel_rfl) (by kernel_rfl) (by kernel_rfl) (fun _ _ _ h => h) (Or.inl ⟨by rfl, ?_⟩) hHeld ?_
          rotate_left
          · intro w hSw
            go_simp <;> with_reducible rfl
          try simp only [Act.put, List.setIfInBounds_toArray, List.set_cons_zero, List.set_cons_succ]
          refine takeAt 9 (some 69) ?_ rfl rfl (by kernel_rfl) (by kernel_rfl) (by kernel_rfl) (fun _ _ _ h => h) (Or.inl ⟨by rfl, ?_⟩) hHeld ?_
          rotate_left
          · intro w hSw
            go_simp <;> with_reducible rfl
          try simp only [Act.put, List.setIfInBounds_toArray, List.set_cons_zero, List.set_cons_succ]
          refine takeAt 10 (some 70) ?_ rfl rfl (by kernel_rfl) (by kernel_rfl) (by kernel_rfl) (fun _ _ _ h => h) (Or.inl ⟨by rfl, ?_⟩) hHeld ?_
          rotate_left
          · intro w hSw
            go_simp <;> with_reducible rfl
          try simp only [Act.put, List.setIfInBounds_toArray, List.set_cons_zero, List.set_cons_succ]
          refine callAtG 6 66 7 (vals := #[.pointer (some ⟨t, 0, none⟩)]) (by kernel_rfl) rfl rfl rfl (by rfl) (by simp [Act.eval]) Try.func7 (by kernel_rfl) (by kernel_rfl) ?_
          refine Calls.mono (F.out.2.2.1 _ G2.out) ?_
          rintro e w9 ⟨gc, rfl, q⟩
          have G3 : Hid _ := q
          clear q G2
          refine ⟨_, rfl, show Tc _ _ _ from G3.out.2.cell, fun hHeld => ?_⟩
          try simp only [Act.put, List.setIfInBounds_toArray, List.set_cons_zero, List.set_cons_succ]
          refine callAtG 11 71 10 (vals := #[.slice (some ⟨gc, 0, none⟩) R R, .slice ra R rc]) (by kernel_rfl) rfl rfl rfl (by rfl) (by simp [Act.eval]) Try.func10 (by kernel_rfl) (by kernel_rfl) ?_
          refine Calls.mono (F.out.2.2.2 _ _ G3.out.1 G3.out.2) ?_
          rintro e w10 ⟨rfl, q⟩
          have G4 : Hid _ := q
          clear q G3
          refine ⟨_, rfl, show Tc _ _ _ from G4.out.cell, fun hHeld => ?_⟩
          try simp only [Act.put, List.setIfInBounds_toArray, List.set_cons_zero, List.set_cons_succ]
          refine takeAt 12 (some 72) ?_ rfl rfl (by kernel_rfl) (by kernel_rfl) (by kernel_rfl) (fun _ _ _ h => h) (Or.inl ⟨by rfl, ?_⟩) hHeld ?_
          rotate_left
          · intro w hSw
            go_simp <;> with_reducible rfl
          try simp only [Act.put, List.setIfInBounds_toArray, List.set_cons_zero, List.set_cons_succ]
          refine takeAt 13 (some 4) ?_ rfl rfl (by kernel_rfl) (by kernel_rfl) (by kernel_rfl) (fun _ _ _ h => h) (Or.inl ⟨by rfl, ?_⟩) hHeld ?_
          rotate_left
          · intro w hSw
            go_simp <;> with_reducible rfl
          try simp only [Act.put, List.setIfInBounds_toArray, List.set_cons_zero, List.set_cons_succ]
          refine wpAnyH_done (by kernel_rfl) ?_ _
          refine NoPanic.normal ?_
          go_wp2_with fail
          go_ret
          exact ⟨by simp, G4.out.two.below⟩
theorem walk (W : World) (v : Value) (ms : List ByteArray) (hv : Lies nobody W v ms ∧ ∀ n c, v = .slice none n c → n = 0 ∧ c = 0) (hb : ∀ y ∈ ms, y.size ≤ reachBytes) (v' : Value) (ps : List OpD) (hv' : OpsAt W v' ps) (hz : ∀ p ∈ ps, OpSz p) : Calls Try.prog 3 #[v, v'] W fun e w' => e = .returned (.bool true) ∧ Below W.heap.size W w' := by
  by_cases h : ms.length ≤ 300 ∧ ps.length ≤ 200 ∧ ∀ p ∈ ps, p.l.length ≤ 50
  · exact walk_in W ms ps v v' hv.1 hv.2 hv' h.1 h.2.1 h.2.2 hz hb
  · obtain ⟨a, cap, rfl, c1, c2⟩ := hv.1.form
    have ho := hv'
    obtain ⟨a', cap', rfl, p1, p2, _⟩ := hv'
    by_cases h3 : ms.length ≤ 300 ∧ ps.length ≤ 200
    · have := heavy_any W a a' _ cap _ cap' ps rfl ho h3.1 h3.2
      rw [show (ps.any fun p => decide (50 < p.l.length)) = true by
        rw [List.any_eq_true]
        apply Classical.byContradiction
        intro hne
        refine h ⟨h3.1, h3.2, fun p hp => ?_⟩
        apply Classical.byContradiction
        intro hq
        exact hne ⟨p, hp, by simp; omega⟩] at this
      exact walk_out W a a' _ cap _ cap' this
    · exact walk_out W a a' _ cap _ cap' (heavy_big W a a' _ cap _ cap' (by omega))

set_option maxRecDepth 100000 in
theorem lifted (os : Os) (started : os.Started) (H : Type) (enc : TypeId × Value → H) :
    ReturnsInHanded {} Try.checked os 3 .any (Rows.treeOwnSpec.pre6 enc Try.prog Try.f3 Rows.treeOwnRow.domain false) (Rows.treeOwnSpec.post enc Try.prog Try.f3 false true false false) := by
  refine returnsInHanded_of_change_sized (C := Try.checked) own started (by kernel_rfl) Try.func3
    (ChangeSpec.witness6 (enc := enc) (C := Try.checked) false ⟨#[], #[.slice none 0 0, .slice none 0 0], []⟩ 8 (by kernel_rfl) (by kernel_rfl) (by kernel_rfl) (by kernel_rfl)) ?_
  intro W base args ds gs before hval0 hW hcnd hsized0 _
  have hval : ∀ (j : Nat) t v, Try.f3.params[j]? = some t → args[j]? = some v → Value.okWide Try.prog W .any base t v := hval0
  have hW' := hW
  obtain ⟨p, q, hA0, hV, rfl, hfz, hnd⟩ := hW
  have hA : DataW.TrodAll enc Try.prog W 0 (fun _ => true) true Try.f3.params.toList args.toList ds p := hA0
  have hsized : (DataW.weightsEach Try.prog (Try.f3.params.toList ++ Rows.treeOwnSpec.plain.varTypes Try.prog) (ds ++ gs)).all (· ≤ reachBytes) = true := hsized0
  rw [Try.params3] at hA hval hsized
  obtain ⟨v0, vs0, d0, ds0, p0, q0, hargs, rfl, rfl, h0, r0⟩ := trodAll_cons hA
  obtain ⟨v1, vs1, d1, ds1, p1, q1, rfl, rfl, rfl, h1, r1⟩ := trodAll_cons r0
  obtain ⟨rfl, rfl, rfl⟩ := trodAll_nil r1
  obtain rfl : args = #[v0, v1] := by cases args; simp_all
  obtain ⟨rfl, rfl⟩ := trodVars_none hV
  have s0 := weights_all hsized (j := 0) rfl rfl
  have s1 := weights_all hsized (j := 1) rfl rfl
  have k0 := h0
  have lt0 : ∀ x ∈ p0, x.block < W.heap.size := by obtain ⟨m, hm⟩ := k0; exact DataW.trod_lt m _ _ _ hm
  obtain ⟨a0, w0, z0⟩ := strs_formn (hval 0 22 v0 rfl rfl) h0
  have k1 := h1
  have lt1 : ∀ x ∈ p1, x.block < W.heap.size := by obtain ⟨m, hm⟩ := k1; exact DataW.trod_lt m _ _ _ hm
  obtain ⟨a1, w1, z1⟩ := ops_form (hval 1 23 v1 rfl rfl) h1
  clear hA0 hval0 hsized0
  refine (walk W v0 a0 w0 (z0 s0) v1 a1 w1 (z1 s1)).mono fun e W' ⟨he, bel⟩ => ?_
  subst he
  exact ⟨_, rfl, _, _, _, [], _, [], hW', trodAll_mk1 (shut_bool Try.underlying4 _), (trodAll_cons_mk (Below.trod laidOut (by kernel_rfl) (of_decide_eq_true (by kernel_rfl)) k0 bel lt0) (trodAll_cons_mk (Below.trod laidOut (by kernel_rfl) (of_decide_eq_true (by kernel_rfl)) k1 bel lt1) trodAll_mk0)), rfl, bel.frame _, fun h => by cases h⟩

theorem over : Rows.treeOwnRow.holds Try.pinned (OpenSpec.ofChange Rows.treeOwnSpec) :=
  OpenClaim.holds_of_wide 3 Try.f3 rfl rfl rfl rfl rfl rfl rfl ⟨rfl, rfl, rfl, rfl, rfl⟩ rfl rfl rfl rfl rfl (by kernel_rfl) Try.func3 (by kernel_rfl)
    (of_decide_eq_true (by kernel_rfl)) (by unfold Func.isWrapper; first | (rw [if_pos (by decide +kernel)]; kernel_rfl) | (rw [if_neg (by decide +kernel)]; exact ⟨rfl, rfl⟩))
    (fun os started H enc _ => lifted os started H enc)

end Go.Proofs.Ytfnhbjokokjhfab.treeOwn
namespace Go.Proofs.Ytfnhbjokokjhfab
theorem treeOwn_holds : Rows.TreeOwnSaid := treeOwn.over
#print axioms treeOwn_holds
end Go.Proofs.Ytfnhbjokokjhfab
