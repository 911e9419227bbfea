/- The tree's calls weigh and drop. -/
import Derived.Test.YtfnhbjokokjhfabFns2
namespace Go.Proofs.Ytfnhbjokokjhfab
open Go.ChangeShapes Go.WideShapes Go.ChangeAt Go.RowKit

def sizes (l : List ByteArray) : Nat := (l.map fun b => b.size).sum
theorem sizes_take (l : List ByteArray) (j : Nat) : sizes (l.take j) ≤ sizes l := by
  unfold sizes
  induction l generalizing j with
  | nil => simp
  | cons a r ih =>
    cases j with
    | zero => simp
    | succ j => have := ih j; simp at this ⊢; omega
theorem sum_take (l : List Nat) (f : Nat → Nat) (j : Nat) : ((l.take j).map f).sum ≤ (l.map f).sum := by
  induction l generalizing j with
  | nil => simp
  | cons a r ih =>
    cases j with
    | zero => simp
    | succ j => have := ih j; simp at this ⊢; omega
theorem sizes_succ {l : List ByteArray} {j : Nat} {x : ByteArray} (h : l[j]? = some x) : sizes (l.take (j + 1)) = sizes (l.take j) + x.size := by
  obtain ⟨hj, e⟩ := List.getElem?_eq_some_iff.1 h
  unfold sizes; rw [List.take_succ_eq_append_getElem hj, e]; simp
theorem sum_succ {l : List Nat} {f : Nat → Nat} {j x : Nat} (h : l[j]? = some x) : ((l.take (j + 1)).map f).sum = ((l.take j).map f).sum + f x := by
  obtain ⟨hj, e⟩ := List.getElem?_eq_some_iff.1 h
  rw [List.take_succ_eq_append_getElem hj, e]; simp

section
variable {o : Own} {w : World} {t : Nat} {s : St} {vn vg : Value}
/-- The counts of a node's are set. -/
def St.put (s : St) (i : Nat) (n : Node) : St := { s with ns := s.ns.set i n }
theorem put_len (s : St) (i : Nat) (n : Node) : (s.put i n).ns.length = s.ns.length := by simp [St.put]
theorem put_same {s : St} {i : Nat} (n : Node) (h : i < s.ns.length) : (s.put i n).ns[i]? = some n := by simp [St.put, h]
theorem put_ne {s : St} {i j : Nat} (n : Node) (h : j ≠ i) : (s.put i n).ns[j]? = s.ns[j]? := by simp [St.put, Ne.symm h]
theorem put_put (s : St) (i : Nat) (n m : Node) : (s.put i n).put i m = s.put i m := by simp [St.put]
theorem put_cnt {s : St} {i j : Nat} (n : Node) (h : j ≠ i) : (s.put i n).cnt j = s.cnt j := by simp [St.cnt, put_ne n h]
theorem put_byt {s : St} {i j : Nat} (n : Node) (h : j ≠ i) : (s.put i n).byt j = s.byt j := by simp [St.byt, put_ne n h]
theorem put_self {s : St} {i : Nat} {n : Node} (h : s.ns[i]? = some n) : s.put i n = s := by
  obtain ⟨hi, e⟩ := List.getElem?_eq_some_iff.1 h
  cases s; simp only [St.put, St.mk.injEq, and_true]; subst e; simp

theorem RepX.count (h : Rep o w t s vn vg) {i b m cap c : Nat} {n : Node} (hi : s.ns[i]? = some n) (hvn : vn = .slice (some ⟨b, 0, none⟩) m cap) : Rep o (w.setCell ⟨b, i * 4 + 2, none⟩ (.int .i64 c)) t (s.put i { n with count := c }) vn vg :=
  RepX.store h (n' := { n with count := c }) (.inr (.inr rfl)) hi hvn (by omega) rfl (h.lines i n hi (by simp)) (h.kids i n hi (by simp))
theorem RepX.byts (h : Rep o w t s vn vg) {i b m cap c : Nat} {n : Node} (hi : s.ns[i]? = some n) (hvn : vn = .slice (some ⟨b, 0, none⟩) m cap) : Rep o (w.setCell ⟨b, i * 4 + 3, none⟩ (.int .i64 c)) t (s.put i { n with bytes := c }) vn vg :=
  RepX.store h (n' := { n with bytes := c }) (.inr (.inr rfl)) hi hvn (by omega) rfl (h.lines i n hi (by simp)) (h.kids i n hi (by simp))
theorem RepX.ob (h : Rep o w t s vn vg) {b m cap : Nat} (hvn : vn = .slice (some ⟨b, 0, none⟩) m cap) : o b ≠ .free := by rw [h.nodes.2 b (by rw [hvn]; rfl)]; simp
/-- All that a walk reads of a node. -/
theorem RepX.cellsAt (h : Rep o w t s vn vg) {i b m cap : Nat} {n : Node} (hi : s.ns[i]? = some n) (hvn : vn = .slice (some ⟨b, 0, none⟩) m cap) :
    w.cell? ⟨t, 0, none⟩ = some vn ∧ w.cell? ⟨b, i * 4, none⟩ = some n.vl ∧ w.cell? ⟨b, i * 4 + 1, none⟩ = some n.vk ∧ w.cell? ⟨b, i * 4 + 2, none⟩ = some (.int .i64 n.count) ∧ w.cell? ⟨b, i * 4 + 3, none⟩ = some (.int .i64 n.bytes) ∧ (∀ j, w.frozen? ⟨b, j, none⟩ = false) := by
  have hl : i < s.ns.length := (List.getElem?_eq_some_iff.1 hi).1
  obtain ⟨b', cap', e, _, _, _, hc⟩ := h.nodeCells (by omega)
  rw [hvn] at e; cases e
  obtain ⟨⟨c0, c1, c2, c3⟩, _⟩ := hc i n hi
  obtain ⟨b2, cap2, cur, e2, _, hg, _⟩ := h.nodes.shape (by omega)
  rw [hvn] at e2; cases e2
  exact ⟨h.at0, c0, c1, c2, c3, fun j => frozen_at hg j⟩

/-- The slice of a row, and the cells of one of its elements. -/
theorem lineAt {x : Tag} (h : RepX x o w t s vn vg) {i j lc : Nat} {n : Node} {la : Option Addr} {L : Nat} (hn : s.ns[i]? = some n) (hx : .lines i ≠ x) (hv : n.vl = .slice la L lc) {y : ByteArray} (hy : n.lines[j]? = some y) : ∃ lb, la = some ⟨lb, 0, none⟩ ∧ w.cell? ⟨lb, j, none⟩ = some (.string y) := by
  have hj := (List.getElem?_eq_some_iff.1 hy).1
  obtain ⟨lb, cap, e, _, _, _, hc⟩ := linesCells h hn hx (by omega)
  rw [hv] at e; injection e with e1 e2 e3
  exact ⟨lb, e1, (hc j y hy).1⟩
theorem kidAt {x : Tag} (h : RepX x o w t s vn vg) {i j lc : Nat} {n : Node} {la : Option Addr} {L : Nat} (hn : s.ns[i]? = some n) (hx : .kids i ≠ x) (hv : n.vk = .slice la L lc) {y : Nat} (hy : n.kids[j]? = some y) : ∃ lb, la = some ⟨lb, 0, none⟩ ∧ w.cell? ⟨lb, j, none⟩ = some (.int .i64 y) := by
  have hj := (List.getElem?_eq_some_iff.1 hy).1
  obtain ⟨lb, cap, e, _, _, _, hc⟩ := kidsCells h hn hx (by omega)
  rw [hv] at e; injection e with e1 e2 e3
  exact ⟨lb, e1, (hc j y hy).1⟩

set_option maxHeartbeats 2000000 in
theorem weigh_any (h : Rep o w t s vn vg) {at_ : Nat} {n : Node} (hn : s.ns[at_]? = some n) (hks : ∀ k ∈ n.kids, k < s.ns.length ∧ k ≠ at_)
    (hb1 : n.lines.length + (n.kids.map s.cnt).sum < 2 ^ 62) (hb2 : sizes n.lines + (n.kids.map s.byt).sum < 2 ^ 62) :
    Calls Try.prog 45 #[.pointer (some ⟨t, 0, none⟩), .int .i64 at_] w fun e w' => e = .returned (.tuple #[]) ∧ Rep o w' t (s.put at_ { n with count := n.lines.length + (n.kids.map s.cnt).sum, bytes := sizes n.lines + (n.kids.map s.byt).sum }) vn vg ∧ Keeps o o w w' := by
  have htop : at_ < s.ns.length := (List.getElem?_eq_some_iff.1 hn).1
  obtain ⟨b, cap, hvn, ho, h1, h2, hcc⟩ := h.nodeCells (by omega)
  clear hcc
  obtain ⟨a0, c0, c1, c2, c3, hf⟩ := h.cellsAt hn hvn
  obtain ⟨la, lc, hl, l1, l2⟩ := (h.lines _ _ hn (by simp)).form
  obtain ⟨ka, kc, hk, k1, k2⟩ := (h.kids _ _ hn (by simp)).form
  have HR0 : Hid (Rep o (((w.setCell ⟨b, at_ * 4 + 2, none⟩ (.int .i64 n.lines.length))).setCell ⟨b, at_ * 4 + 3, none⟩ (.int .i64 ((0 : Nat) : Int))) t (s.put at_ { n with count := n.lines.length, bytes := 0 }) vn vg ∧
      Keeps o o w (((w.setCell ⟨b, at_ * 4 + 2, none⟩ (.int .i64 n.lines.length))).setCell ⟨b, at_ * 4 + 3, none⟩ (.int .i64 ((0 : Nat) : Int)))) := by
    have r1 := h.count (c := n.lines.length) hn hvn
    have r2 := r1.byts (c := 0) (put_same _ htop) hvn
    rw [put_put] at r2
    exact ⟨r2, ((Keeps.refl o w).setCell (h.ob hvn)).setCell (h.ob hvn)⟩
  have HC0 : Hid (n.vl = .slice la n.lines.length lc) := hl
  have HK0 : Hid (n.vk = .slice ka n.kids.length kc) := hk
  unfold maxLen at h2 l2 k2
  rw [hl] at c0
  rw [hk] at c1
  rw [hvn] at a0
  have HV : Hid (vn = .slice (some ⟨b, 0, none⟩) s.ns.length cap) := hvn
  have HKS : Hid (∀ k ∈ n.kids, k < s.ns.length ∧ k ≠ at_) := hks
  have HB1 : Hid (n.lines.length + (n.kids.map s.cnt).sum < 2 ^ 62) := hb1
  have HB2 : Hid (sizes n.lines + (n.kids.map s.byt).sum < 2 ^ 62) := hb2
  have hLb : n.lines.length < 2 ^ 62 := by omega
  clear h hn hl hk hvn hks hb1 hb2
  obtain ⟨L, HLe, hL⟩ : ∃ L, Hid (n.lines.length = L) ∧ n.lines.length = L := ⟨_, rfl, rfl⟩
  obtain ⟨K, HKe, hK⟩ : ∃ K, Hid (n.kids.length = K) ∧ n.kids.length = K := ⟨_, rfl, rfl⟩
  obtain ⟨N, HNe, hN⟩ : ∃ N, Hid (s.ns.length = N) ∧ s.ns.length = N := ⟨_, rfl, rfl⟩
  rw [hL] at c0 l1 hLb
  rw [hK] at c1 k1
  rw [hN] at a0 htop h1
  clear hL hK hN
  go_enter Try.func45, Try.ntmps45
  go_wp2
  go_loopw [31] (fun vi wr => ∃ j : Nat, j ≤ L ∧ vi = .int .i64 j ∧ Rep o wr t (s.put at_ { n with count := n.lines.length, bytes := sizes (n.lines.take j) }) vn vg ∧ Keeps o o w wr) (fun vi _ => L - (intOf vi).toNat)
  case atStart => exact ⟨0, Nat.zero_le _, rfl, by have := HR0.out.1; rw [HLe.out] at this; simpa [HLe.out, sizes] using this, by have := HR0.out.2; rw [HLe.out] at this; simpa using this⟩
  case round =>
    obtain ⟨j, hj, rfl, hr, hkp⟩ := hrel
    have hns := put_same (s := s) { n with count := n.lines.length, bytes := sizes (n.lines.take j) } (by rw [HNe.out]; exact htop)
    obtain ⟨d0, e0, e1, e2, e3, ef⟩ := hr.cellsAt hns HV.out
    by_cases hlt : j < L
    · have hy : n.lines[j]? = some (n.lines[j]'(by rw [HLe.out]; exact hlt)) := List.getElem?_eq_getElem _
      generalize n.lines[j]'(by rw [HLe.out]; exact hlt) = y at hy
      obtain ⟨lb, rfl, hyc⟩ := lineAt hr hns (by simp) HC0.out hy
      have hsz : Hid (sizes (n.lines.take (j + 1)) = sizes (n.lines.take j) + y.size) := sizes_succ hy
      have hbd : sizes (n.lines.take j) + y.size < 2 ^ 62 := by have := sizes_take n.lines (j + 1); rw [hsz.out] at this; have := HB2.out; omega
      have HR : Hid (∀ c, Rep o (wr.setCell ⟨b, at_ * 4 + 3, none⟩ (.int .i64 (c : Nat))) t (s.put at_ { n with count := n.lines.length, bytes := c }) vn vg) := fun c => by
        have := hr.byts (c := c) hns HV.out; rw [put_put] at this; exact this
      have HK : Hid (∀ v, Keeps o o w (wr.setCell ⟨b, at_ * 4 + 3, none⟩ v)) := fun v => hkp.setCell (hr.ob HV.out)
      generalize sizes (n.lines.take j) = Z at *
      clear hr hkp hns hy a0 c0 c1 c2 c3 hf d0 e0 e1 e2 HR0
      go_wp2
      go_roundw
      case rel => exact ⟨j + 1, by omega, by go_num, by have := HR.out (Z + y.size); rw [hsz.out]; simpa using this, HK.out _⟩
      case measure => simp [intOf]; omega
    · obtain rfl : j = L := by omega
      have eT : n.lines.take j = n.lines := by rw [← HLe.out]; simp
      rw [eT] at hr hns e3
      have HRr : Hid (Rep o wr t (s.put at_ { n with count := n.lines.length, bytes := sizes n.lines }) vn vg ∧ Keeps o o w wr) := ⟨hr, hkp⟩
      rw [HV.out, HNe.out] at d0
      have e1' : wr.cell? ⟨b, at_ * 4 + 1, none⟩ = some (.slice ka K kc) := by rw [e1]; show some n.vk = _; rw [HK0.out, HKe.out]
      clear hr hkp hns eT e0 e1 e2 e3 a0 c0 c1 c2 c3 hf HR0 ef
      go_wp2
      go_loopw [50] (fun vi wr2 => ∃ i : Nat, i ≤ K ∧ vi = .int .i64 i ∧ Rep o wr2 t (s.put at_ { n with count := n.lines.length + ((n.kids.take i).map s.cnt).sum, bytes := sizes n.lines + ((n.kids.take i).map s.byt).sum }) vn vg ∧ Keeps o o w wr2) (fun vi _ => K - (intOf vi).toNat)
      case atStart => exact ⟨0, Nat.zero_le _, rfl, by simpa using HRr.out.1, HRr.out.2⟩
      case round =>
        obtain ⟨i, hi, rfl, hr, hkp⟩ := hrel
        have hns := put_same (s := s) { n with count := n.lines.length + ((n.kids.take i).map s.cnt).sum, bytes := sizes n.lines + ((n.kids.take i).map s.byt).sum } (by rw [HNe.out]; exact htop)
        obtain ⟨d0, e0, e1, e2, e3, ef⟩ := hr.cellsAt hns HV.out
        rw [HV.out, HNe.out] at d0
        by_cases hlt2 : i < K
        · have hy : n.kids[i]? = some (n.kids[i]'(by rw [HKe.out]; exact hlt2)) := List.getElem?_eq_getElem _
          generalize n.kids[i]'(by rw [HKe.out]; exact hlt2) = y at hy
          obtain ⟨lb, rfl, hyc⟩ := kidAt hr hns (by simp) HK0.out hy
          obtain ⟨hyN, hyne⟩ := HKS.out y (List.mem_of_getElem? hy)
          have hyp : (s.put at_ { n with count := n.lines.length + ((n.kids.take i).map s.cnt).sum, bytes := sizes n.lines + ((n.kids.take i).map s.byt).sum }).ns[y]? = some s.ns[y] := by rw [put_ne _ hyne]; exact List.getElem?_eq_getElem hyN
          obtain ⟨qq, g0, g1, g2, g3, qf⟩ := hr.cellsAt hyp HV.out
          clear qq g0 g1 qf e0 e1 HRr
          have ecn : s.ns[y].count = s.cnt y := by simp [St.cnt, hyN]
          have ebt : s.ns[y].bytes = s.byt y := by simp [St.byt, hyN]
          rw [ecn] at g2
          rw [ebt] at g3
          have hs1 : Hid (((n.kids.take (i + 1)).map s.cnt).sum = ((n.kids.take i).map s.cnt).sum + s.cnt y) := sum_succ hy
          have hs2 : Hid (((n.kids.take (i + 1)).map s.byt).sum = ((n.kids.take i).map s.byt).sum + s.byt y) := sum_succ hy
          have hbd1 : n.lines.length + ((n.kids.take i).map s.cnt).sum + s.cnt y < 2 ^ 62 := by have := sum_take n.kids s.cnt (i + 1); rw [hs1.out] at this; have := HB1.out; omega
          have hbd2 : sizes n.lines + ((n.kids.take i).map s.byt).sum + s.byt y < 2 ^ 62 := by have := sum_take n.kids s.byt (i + 1); rw [hs2.out] at this; have := HB2.out; omega
          have HR : Hid (∀ c d, Rep o ((wr.setCell ⟨b, at_ * 4 + 2, none⟩ (.int .i64 (c : Nat))).setCell ⟨b, at_ * 4 + 3, none⟩ (.int .i64 (d : Nat))) t (s.put at_ { n with count := c, bytes := d }) vn vg) := fun c d => by
            have r1 := hr.count (c := c) hns HV.out
            rw [put_put] at r1
            have r2 := r1.byts (c := d) (put_same _ (by rw [HNe.out]; exact htop)) HV.out
            rw [put_put] at r2; exact r2
          have HK : Hid (∀ v u, Keeps o o w ((wr.setCell ⟨b, at_ * 4 + 2, none⟩ v).setCell ⟨b, at_ * 4 + 3, none⟩ u)) := fun v u => (hkp.setCell (hr.ob HV.out)).setCell (hr.ob HV.out)
          have hyN' : y < N := by rw [← HNe.out]; exact hyN
          generalize ((n.kids.take i).map s.cnt).sum = Z1 at *
          generalize ((n.kids.take i).map s.byt).sum = Z2 at *
          clear hr hkp hns hy hyp hyN ecn ebt
          generalize s.cnt y = Y1 at *
          generalize s.byt y = Y2 at *
          generalize n.lines.length = LL at *
          generalize sizes n.lines = SS at *
          go_wp2
          go_region
          all_goals go_wp2
          all_goals go_region
          all_goals go_wp2
          go_roundw
          case rel => exact ⟨i + 1, by omega, by go_num, by have := ((HR.out (LL + Z1 + Y1) (SS + Z2 + Y2)).drew).drew; rw [hs1.out, hs2.out, ← Nat.add_assoc, ← Nat.add_assoc]; simpa using this, ((HK.out _ _).drew).drew⟩
          case measure => simp [intOf]; omega
        · obtain rfl : i = K := by omega
          have eT : n.kids.take i = n.kids := by rw [← HKe.out]; simp
          rw [eT] at hr
          have HF : Hid (Rep o wr t (s.put at_ { n with count := n.lines.length + (n.kids.map s.cnt).sum, bytes := sizes n.lines + (n.kids.map s.byt).sum }) vn vg ∧ Keeps o o w wr) := ⟨hr, hkp⟩
          clear hr hkp hns eT e0 e1 e2 e3 ef d0 HRr
          go_wp2
          go_end0
          exact ⟨rfl, HF.out⟩
end
end Go.Proofs.Ytfnhbjokokjhfab
