/- The tree's calls kid and fresh. -/
import Derived.Test.YtfnhbjokokjhfaaFns1
namespace Go.Proofs.Ytfnhbjokokjhfaa
open Go.ChangeShapes Go.WideShapes Go.ChangeAt Go.RowKit
set_option linter.unusedSimpArgs false

def St.cnt (s : St) (k : Nat) : Nat := ((s.ns[k]?).map (·.count)).getD 0
def St.byt (s : St) (k : Nat) : Nat := ((s.ns[k]?).map (·.bytes)).getD 0
theorem info3 : (Try.prog.info? 3).map (fun i => (i.zero, i.size, i.bytes)) = some (some (.int .i64 0), 1, 8) := by kernel_rfl
theorem info9 : (Try.prog.info? 9).map (fun i => (i.zero, i.size, i.bytes)) = some (some (.string ⟨#[]⟩), 1, 16) := by kernel_rfl
theorem infoN : (Try.prog.info? 63).map (fun i => (i.zero, i.size, i.bytes)) = some (some (.agg #[.slice none 0 0, .slice none 0 0, .int .i64 0, .int .i64 0]), 4, 64) := by kernel_rfl

theorem drew2 (w : World) (a b : Nat) : (w.drewN a).drewN b = w.drewN (a + b) := by
  have e : ∀ (n : Nat) (w : World), w.drewN n = { w with drawn := w.drawn + n } := by
    intro n
    induction n with
    | zero => intro w; rfl
    | succ n ih => intro w; simp [World.drewN, World.drew, ih, Nat.add_assoc, Nat.add_comm 1 n]
  simp [e, Nat.add_assoc]
section
variable {o : Own} {w : World} {t : Nat} {s : St} {vn vg : Value}
theorem kidsCells {x : Tag} (h : RepX x o w t s vn vg) {i : Nat} {n : Node} (hn : s.ns[i]? = some n) (hx : .kids i ≠ x) (hp : 0 < n.kids.length) : ∃ b cap, n.vk = .slice (some ⟨b, 0, none⟩) n.kids.length cap ∧ o b = .kids i ∧ n.kids.length ≤ cap ∧ cap ≤ maxLen ∧
    ∀ (j : Nat) k, n.kids[j]? = some k → w.cell? ⟨b, j, none⟩ = some (.int .i64 k) ∧ w.frozen? ⟨b, j, none⟩ = false := by
  obtain ⟨b, cap, cur, e, ho, hg, h1, h2, h3, h4⟩ := (h.kids i n hn hx).shape hp
  exact ⟨b, cap, e, ho, h1, h2, fun j k hj => row_cell hg h4 (cap := cap) (by simp [nums, hj])⟩
theorem linesCells {x : Tag} (h : RepX x o w t s vn vg) {i : Nat} {n : Node} (hn : s.ns[i]? = some n) (hx : .lines i ≠ x) (hp : 0 < n.lines.length) : ∃ b cap, n.vl = .slice (some ⟨b, 0, none⟩) n.lines.length cap ∧ o b = .lines i ∧ n.lines.length ≤ cap ∧ cap ≤ maxLen ∧
    ∀ (j : Nat) k, n.lines[j]? = some k → w.cell? ⟨b, j, none⟩ = some (.string k) ∧ w.frozen? ⟨b, j, none⟩ = false := by
  obtain ⟨b, cap, cur, e, ho, hg, h1, h2, h3, h4⟩ := (h.lines i n hn hx).shape hp
  exact ⟨b, cap, e, ho, h1, h2, fun j k hj => row_cell hg h4 (cap := cap) (by simp [strs, hj])⟩

theorem kid_any (h : Rep o w t s vn vg) {at_ i : Nat} {n : Node} (hn : s.ns[at_]? = some n) (hk0 : 0 < n.kids.length) (hks : ∀ k ∈ n.kids, k < s.ns.length) (hi : i < 2 ^ 40) :
    Calls Try.prog 39 #[.pointer (some ⟨t, 0, none⟩), .int .i64 at_, .int .i64 i] w fun e w' => (∃ k i' kd : Nat, e = .returned (.tuple #[.int .i64 k, .int .i64 i']) ∧ n.kids[k]? = some kd ∧ i = ((n.kids.take k).map s.cnt).sum + i' ∧ (i' < s.cnt kd ∨ k + 1 = n.kids.length)) ∧ ∃ q, w' = w.drewN q := by
  have htop : at_ < s.ns.length := (List.getElem?_eq_some_iff.1 hn).1
  obtain ⟨b, cap, rfl, ho, h1, h2, hc⟩ := h.nodeCells (by omega)
  obtain ⟨⟨c0, c1, c2, c3⟩, hf⟩ := hc _ _ hn
  obtain ⟨kb, kc, hvk, hko, hk1, hk2, hkc⟩ := kidsCells h hn (by simp) hk0
  rw [hvk] at c1
  have a0 := h.at0
  unfold maxLen at h2 hk2
  have hcnt : ∀ k, k < s.ns.length → w.cell? ⟨b, k * 4 + 2, none⟩ = some (.int .i64 (s.cnt k)) := fun k hk => by
    obtain ⟨⟨_, _, q2, _⟩, _⟩ := hc k s.ns[k] (List.getElem?_eq_getElem hk)
    rw [q2]; simp [St.cnt, List.getElem?_eq_getElem hk]
  generalize hN : s.ns.length = N at *
  clear hc hn h hvk c0 c2 c3 hf
  obtain ⟨ks, hkse⟩ : ∃ ks, ks = n.kids := ⟨_, rfl⟩
  rw [← hkse] at hk0 hks c1 hk1 hkc ⊢
  clear hkse hN
  go_enter Try.func39, Try.ntmps39
  go_wp2
  go_loopw [2, 9] (fun vi vk wr => ∃ k i' : Nat, k < ks.length ∧ vk = .int .i64 k ∧ vi = .int .i64 i' ∧ i = ((ks.take k).map s.cnt).sum + i' ∧ ∃ q, wr = w.drewN q) (fun _ vk _ => ks.length - (intOf vk).toNat)
  case atStart => exact ⟨0, i, hk0, rfl, rfl, by simp, 0, rfl⟩
  case round =>
    obtain ⟨k, i', hk, rfl, rfl, hsum, q, rfl⟩ := hrel
    have hkk : ks[k]? = some ks[k] := List.getElem?_eq_getElem hk
    have hkm : ks[k] < N := hks _ (List.getElem_mem hk)
    have hcell := (hkc k _ hkk).1
    have hct := hcnt _ hkm
    generalize ks[k] = kd at *
    have hs2 : ((ks.take (k + 1)).map s.cnt).sum = ((ks.take k).map s.cnt).sum + s.cnt kd := by
      rw [List.take_succ_eq_append_getElem hk]; have := List.getElem?_eq_some_iff.1 hkk; obtain ⟨_, e⟩ := this; rw [e]; simp
    have HS : Hid (((ks.take (k + 1)).map s.cnt).sum = ((ks.take k).map s.cnt).sum + s.cnt kd) := hs2
    have HQ : Hid (i = ((ks.take k).map s.cnt).sum + i') := hsum
    have HK : Hid (ks[k]? = some kd) := hkk
    have hib : i' < 2 ^ 40 := by omega
    generalize hC : s.cnt kd = C at hct HS
    have HC : Hid (s.cnt kd = C) := hC
    clear hC hsum hs2 hkk hkc hcnt hks
    by_cases hlt : (k : Int) < (ks.length : Int) - 1
    · by_cases hge : (C : Int) ≤ (i' : Int)
      · go_wp2
        go_quiet (fail)
        go_wp2
        go_quiet (fail)
        go_wp2
        go_roundw
        case rel => exact ⟨k + 1, i' - C, by omega, by go_num, by go_num, by rw [HS.out]; have := HQ.out; omega, _, rfl⟩
        case measure => simp [intOf]; omega
      · have hd : decide ((C : Int) ≤ (i' : Int)) = false := by simpa using hge
        go_wp2
        go_quiet (fail)
        go_wp2
        go_ret2
        exact ⟨⟨k, i', kd, rfl, HK.out, HQ.out, .inl (by rw [HC.out]; omega)⟩, _, drew2 _ _ _⟩
    · have hd : decide ((k : Int) < (ks.length : Int) - 1) = false := by simpa using hlt
      go_wp2
      go_quiet (fail)
      go_wp2
      go_ret2
      exact ⟨⟨k, i', kd, rfl, HK.out, HQ.out, .inr (by omega)⟩, _, drew2 _ _ _⟩

theorem Row.shorten {o : Own} {w : World} {g : Tag} {e : TypeId} {b n cap n' : Nat} {xs xs' : List Value} (h : Row o w g e 1 (.slice (some ⟨b, 0, none⟩) n cap) n xs) (hn : n' ≤ n) (hx : xs' = xs.take n') : Row o w g e 1 (.slice (some ⟨b, 0, none⟩) n' cap) n' xs' := by
  rcases h.1.2 with ⟨h0, _⟩ | ⟨b', cap', cur, e', _, hg, h1, h2, h3, h4⟩
  · cases h0
  · cases e'
    subst hx
    have hl : xs.length = n := by simpa using h.1.1
    refine ⟨⟨by simp; omega, .inr ⟨b, cap, cur, rfl, Nat.zero_le _, hg, by omega, h2, h3, ?_⟩⟩, h.2⟩
    rw [← h4, List.take_take]; congr 1; omega
/-- A number that was given up is used again. -/
theorem fresh_old (h : Rep o w t s vn vg) {g0 : List Nat} {a : Nat} (hg : s.gone = g0 ++ [a]) :
    Calls Try.prog 28 #[.pointer (some ⟨t, 0, none⟩)] w fun e w' => e = .returned (.int .i64 a) ∧ ∃ vg', Rep o w' t { s with gone := g0 } vn vg' ∧ Keeps o o w w' := by
  have hlen : s.gone.length = g0.length + 1 := by rw [hg]; simp
  obtain ⟨b, cap, cur, rfl, ho, hb, h1, h2, h3, h4⟩ := h.gone.shape (by omega)
  have hc : w.cell? ⟨b, g0.length, none⟩ = some (.int .i64 a) := (row_cell hb h4 (cap := cap) (by rw [hg]; simp [nums])).1
  have a0 := h.at0; have a1 := h.at1; have f1 := h.atF 1
  have HR : Hid (∀ vg', vg' = .slice (some ⟨b, 0, none⟩) g0.length cap → Rep o (w.setCell ⟨t, 1, none⟩ vg') t { s with gone := g0 } vn vg') := by
    rintro vg' rfl
    refine h.storeGone (w' := w) (KB.same rfl rfl rfl rfl h.lt) (h.gone.shorten (by omega) ?_)
    rw [hg]; simp [nums]
  have HK : Hid (∀ vg', Keeps o o w (w.setCell ⟨t, 1, none⟩ vg')) := fun vg' => (Keeps.refl o w).setCell (by rw [h.ot]; simp)
  rw [hlen] at a1 h1
  unfold maxLen at h2
  clear h hb h3 h4 hg hlen ho
  generalize g0.length = G at *
  go_enter Try.func28, Try.ntmps28
  go_wp2
  go_ret
  exact ⟨rfl, _, HR.out _ (by simp), HK.out _⟩
/-- The tree's struct behind a call or an append that turned one owner's row. -/
theorem RepX.treeKB {x g : Tag} {o o' : Own} {w w' : World} (h : RepX x o w t s vn vg) (k : KB g o o' w w') (hg : g ≠ .tree) : w'.cell? ⟨t, 0, none⟩ = some vn ∧ w'.cell? ⟨t, 1, none⟩ = some vg ∧ w'.cell? ⟨t, 2, none⟩ = some (.int .i64 s.top) ∧ ∀ j, w'.frozen? ⟨t, j, none⟩ = false := by
  have e : w'.heap[t]? = w.heap[t]? := k.block t h.tlt (by rw [h.ot]; exact fun e => hg e.symm)
  rw [h.tree] at e
  exact ⟨by simp [World.cell?, e], by simp [World.cell?, e], by simp [World.cell?, e], fun j => by simp [World.frozen?, e]⟩
/-- A new number, behind all. -/
theorem fresh_new (h : Rep o w t s vn vg) (hg : s.gone = []) (hn : s.ns.length < 1000000000) :
    Calls Try.prog 28 #[.pointer (some ⟨t, 0, none⟩)] w fun e w' => e = .returned (.int .i64 s.ns.length) ∧ ∃ o' vn', Rep o' w' t { s with ns := s.ns ++ [nilNode] } vn' vg ∧ Keeps o o' w w' := by
  obtain ⟨ga, gc, hv, _, _⟩ := h.gone.form
  have a0 := h.at0; have a1 := h.at1; have f0 := h.atF 0
  rw [hv, hg] at a1
  obtain ⟨i0, hi, hz0, hz1, hz2⟩ := info_parts infoN
  obtain ⟨na, nc, hvn, hn1, hn2⟩ := h.nodes.form
  have htl := h.tlt
  subst hvn
  have hown' : Hid (w.ownsRow 0 63 4 (.slice na s.ns.length nc) s.ns.length (s.ns.flatMap Node.cells)) := h.nodes.1
  have hnew : Hid (∀ (W : World) j u, nilNode.cells[j]? = some u → (W.alloc (.cells #[.slice none 0 0, .slice none 0 0, .int .i64 0, .int .i64 0] 63)).cell? ((⟨W.heap.size, 0, none⟩ : Addr).add j) = some u) := by
    intro W j u hj
    rw [Addr.add_lit, cell_at (alloc_new W _), Nat.zero_add, ← hj]
    match j with
    | 0 => rfl
    | 1 => rfl
    | 2 => rfl
    | 3 => rfl
    | j + 4 => simp [nilNode, Node.cells]
  have hone : Hid (∀ u ∈ nilNode.cells, u.oneCell' = true) := by intro u hu; simp [nilNode, Node.cells] at hu; rcases hu with rfl | rfl <;> rfl
  have HR : Hid (∀ (g cap : Nat) (w1 : World) (ob : Obj), w1.ownsRow 0 63 4 (.slice (some ⟨g, 0, none⟩) (s.ns.length + 1) cap) (s.ns.length + 1) (s.ns.flatMap Node.cells ++ nilNode.cells) → (w.alloc ob).grownBy w1 (Value.slice na s.ns.length nc).ownBlock →
      ((Value.slice na s.ns.length nc).ownBlock = some g ∨ g = w.heap.size + 1) → g < w1.heap.size → (w1.cell? ⟨t, 0, none⟩ = some (.slice na s.ns.length nc) ∧ w1.frozen? ⟨t, 0, none⟩ = false) ∧ ∃ o', Rep o' (w1.setCell ⟨t, 0, none⟩ (.slice (some ⟨g, 0, none⟩) (s.ns.length + 1) cap)) t { s with ns := s.ns ++ [nilNode] } (.slice (some ⟨g, 0, none⟩) (s.ns.length + 1) cap) vg ∧
        Keeps o o' w (w1.setCell ⟨t, 0, none⟩ (.slice (some ⟨g, 0, none⟩) (s.ns.length + 1) cap))) := by
    intro g cap w1 ob hown1 hgrow hat hlt
    have ha := h.alloc ob
    obtain ⟨o', hr', kb⟩ := ha.nodes.grown ha.lt hown1 hgrow (by rcases hat with e | e; exact .inl e; exact .inr (by rw [e]; simp)) hlt
    obtain ⟨q0, _, _, qf⟩ := ha.treeKB kb (by simp)
    have hrep := RepX.storeNodes (ns' := s.ns ++ [nilNode]) ha kb (by simpa using hr') (by
      intro i n hi
      rw [List.getElem?_append] at hi
      split at hi
      · exact .inl hi
      · right
        rename_i hge
        have : i - s.ns.length = 0 := by
          have := (List.getElem?_eq_some_iff.1 hi).1; simp at this; omega
        rw [this] at hi; simpa using hi.symm)
    refine ⟨⟨q0, qf 0⟩, o', hrep, ?_⟩
    exact (((Keeps.refl o w).alloc ob).trans (kb.keeps (by simp))).setCell (by rw [hrep.ot]; simp)
  unfold maxLen at hn2
  clear h hv hg
  generalize s.ns.length = N at *
  go_enter Try.func28, Try.ntmps28
  go_wp2_with (at_builtin; refine wpList_append_lies _ rfl (.tmp 35) (.tmp 37) 55 rfl 0 63 i0 _ 4 64 Try.underlying55 hi hz0 hz1 hz2 rfl (by decide) (.slice na N nc) N (s.ns.flatMap Node.cells) rfl (hown'.out.alloc _) ⟨w.heap.size, 0, none⟩ 1 1 nilNode.cells rfl rfl (hnew.out _) hone.out (by omega) (by unfold maxLen; omega) (by omega) (Nat.zero_le _) (w.heap.size + 1) (by simp) ?_; intro g cap w1 hown1 hgrow hat hlt; obtain ⟨⟨q0, qf⟩, HF⟩ := HR.out g cap w1 _ hown1 hgrow hat hlt; clear hown1 hgrow hat)
  obtain ⟨o', h1, h2⟩ := HF
  go_ret
  exact ⟨rfl, o', _, h1, h2⟩
end
end Go.Proofs.Ytfnhbjokokjhfaa
