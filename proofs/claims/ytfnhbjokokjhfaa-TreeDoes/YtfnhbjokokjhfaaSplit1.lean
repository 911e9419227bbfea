/- The call split. -/
import Derived.Test.YtfnhbjokokjhfaaHand
namespace Go.Proofs.Ytfnhbjokokjhfaa
open Go.ChangeShapes Go.WideShapes Go.ChangeAt Go.RowKit

theorem sum_drop (l : List Nat) (f : Nat → Nat) (j : Nat) : ((l.drop j).map f).sum ≤ (l.map f).sum := by
  induction l generalizing j with
  | nil => simp
  | cons a r ih =>
    cases j with
    | zero => simp
    | succ j => have := ih j; simp at this ⊢; omega
theorem sizes_drop (l : List ByteArray) (j : Nat) : sizes (l.drop j) ≤ sizes l := by
  unfold sizes
  induction l generalizing j with
  | nil => simp
  | cons a r ih =>
    cases j with
    | zero => simp
    | succ j => have := ih j; simp at this ⊢; omega
/-- A number for a new node: one that was given up, or the next. -/
def FreshIn (s : St) (r : Nat) (gone' : List Nat) : Prop := (s.gone = gone' ++ [r] ∧ s.ns[r]? = some nilNode) ∨ (s.gone = [] ∧ gone' = [] ∧ r = s.ns.length)
structure SplitTo (s : St) (at_ k left : Nat) (na nl : Node) (r : Nat) (s' : St) : Prop where
  fresh : FreshIn s r s'.gone
  top : s'.top = s.top
  len : s'.ns.length = max s.ns.length (r + 1)
  rest : ∀ j, j ≠ at_ → j ≠ left → j ≠ r → s'.ns[j]? = s.ns[j]?
  L : ∃ v u, s'.ns[left]? = some ⟨v, u, nl.lines.take (nl.lines.length / 2), nl.kids.take (nl.kids.length / 2), (nl.lines.take (nl.lines.length / 2)).length + ((nl.kids.take (nl.kids.length / 2)).map s.cnt).sum, sizes (nl.lines.take (nl.lines.length / 2)) + ((nl.kids.take (nl.kids.length / 2)).map s.byt).sum⟩ ∧ (nl.lines = [] → v = .slice none 0 0) ∧ (nl.kids = [] → u = .slice none 0 0)
  R : ∃ v u, s'.ns[r]? = some ⟨v, u, nl.lines.drop (nl.lines.length / 2), nl.kids.drop (nl.kids.length / 2), (nl.lines.drop (nl.lines.length / 2)).length + ((nl.kids.drop (nl.kids.length / 2)).map s.cnt).sum, sizes (nl.lines.drop (nl.lines.length / 2)) + ((nl.kids.drop (nl.kids.length / 2)).map s.byt).sum⟩ ∧ (nl.lines = [] → v = .slice none 0 0) ∧ (nl.kids = [] → u = .slice none 0 0)
  A : ∃ u, s'.ns[at_]? = some { na with vk := u, kids := na.kids.take (k + 1) ++ r :: na.kids.drop (k + 1) }

section
variable {o : Own} {w : World} {t : Nat} {s : St} {vn vg : Value}
set_option maxHeartbeats 8000000 in
theorem split_any (h : Rep o w t s vn vg) (hlen : s.ns.length < 100000000) {at_ k left : Nat} {na nl : Node}
    (hat : s.ns[at_]? = some na) (hk : na.kids[k]? = some left) (hl : s.ns[left]? = some nl) (hne : left ≠ at_)
    (hgone : ∀ r g0, s.gone = g0 ++ [r] → s.ns[r]? = some nilNode ∧ r ≠ at_ ∧ r ≠ left ∧ r ∉ nl.kids)
    (hc1 : nl.kids = [] → nl.vk = .slice none 0 0) (hc2 : nl.lines = [] → nl.vl = .slice none 0 0) (hks : ∀ c ∈ nl.kids, c < s.ns.length ∧ c ≠ left ∧ c ≠ at_)
    (hb1 : nl.lines.length + (nl.kids.map s.cnt).sum < 2 ^ 62) (hb2 : sizes nl.lines + (nl.kids.map s.byt).sum < 2 ^ 62) (hb3 : nl.lines.length < 100000000 ∧ nl.kids.length < 100000000 ∧ na.kids.length < 100000000) :
    Calls Try.prog 54 #[.pointer (some ⟨t, 0, none⟩), .int .i64 at_, .int .i64 k] w fun e w' => e = .returned (.tuple #[]) ∧ ∃ r s', SplitTo s at_ k left na nl r s' ∧ Did o w t s' w' := by
  go_enter Try.func54, Try.ntmps54
  go_wp2_with fail
  refine (fresh_any h (by omega)).mono ?_
  rintro e w1 ⟨r, s1, rfl, ⟨o1, vn1, vg1, h1, K1⟩, hfr, htop1⟩
  -- the tree behind fresh
  have hr1 : s1.ns[r]? = some nilNode ∧ r ≠ at_ ∧ r ≠ left ∧ r ∉ nl.kids := by
    rcases hfr with ⟨e1, e2⟩ | ⟨e1, _, rfl, e2⟩
    · have := hgone r _ e1; rw [e2]; exact this
    · have l1 := (List.getElem?_eq_some_iff.1 hat).1
      have l2 := (List.getElem?_eq_some_iff.1 hl).1
      exact ⟨by rw [e2]; simp, by omega, by omega, fun hm => by have := (hks _ hm).1; omega⟩
  obtain ⟨hr1, hra, hrl, hrk⟩ := hr1
  have hold : ∀ (j : Nat) n, s.ns[j]? = some n → s1.ns[j]? = some n := by
    intro j n hj
    rcases hfr with ⟨_, e2⟩ | ⟨_, _, _, e2⟩
    · rw [e2]; exact hj
    · rw [e2, List.getElem?_append_left (List.getElem?_eq_some_iff.1 hj).1]; exact hj
  have hat1 := hold _ _ hat
  have hl1 := hold _ _ hl
  have lA : at_ < s1.ns.length := (List.getElem?_eq_some_iff.1 hat1).1
  have lL : left < s1.ns.length := (List.getElem?_eq_some_iff.1 hl1).1
  have lR : r < s1.ns.length := (List.getElem?_eq_some_iff.1 hr1).1
  have hlen1 : s1.ns.length < 200000000 := by
    rcases hfr with ⟨_, e2⟩ | ⟨_, _, _, e2⟩
    · rw [e2]; omega
    · rw [e2]; simp; omega
  obtain ⟨b, cap, hvn, hob, n1, n2, hcc⟩ := h1.nodeCells (by omega)
  clear hcc
  obtain ⟨a0, cl0, cl1, cl2, cl3, cf⟩ := h1.cellsAt hl1 hvn
  obtain ⟨zz1, ca0, ca1, ca2, ca3, zz2⟩ := h1.cellsAt hat1 hvn
  clear zz1 zz2
  obtain ⟨kb, kc, hvk, hko, hk1, hk2, hkc⟩ := kidsCells h1 hat1 (by simp) (by have := (List.getElem?_eq_some_iff.1 hk).1; omega)
  have hkl := (List.getElem?_eq_some_iff.1 hk).1
  have hkcell := (hkc k left hk).1
  rw [hvk] at ca1
  rw [hvn] at a0
  unfold maxLen at n2 hk2
  have H1 : Hid (Rep o1 w1 t s1 vn1 vg1 ∧ Keeps o o1 w w1) := ⟨h1, K1⟩
  have G : Hid ((s1.ns[at_]? = some na ∧ s1.ns[left]? = some nl ∧ s1.ns[r]? = some nilNode) ∧ (∀ (j : Nat) n, s.ns[j]? = some n → s1.ns[j]? = some n) ∧ s1.top = s.top ∧ ((s.gone = s1.gone ++ [r] ∧ s1.ns = s.ns) ∨ (s.gone = [] ∧ s1.gone = [] ∧ r = s.ns.length ∧ s1.ns = s.ns ++ [nilNode]))) := ⟨⟨hat1, hl1, hr1⟩, hold, htop1, hfr⟩
  have GH : Hid ((∀ r g0, s.gone = g0 ++ [r] → s.ns[r]? = some nilNode ∧ r ≠ at_ ∧ r ≠ left ∧ r ∉ nl.kids) ∧ (∀ c ∈ nl.kids, c < s.ns.length ∧ c ≠ left ∧ c ≠ at_) ∧ (nl.kids = [] → nl.vk = .slice none 0 0) ∧ (nl.lines = [] → nl.vl = .slice none 0 0) ∧ na.kids[k]? = some left ∧ s.ns[at_]? = some na ∧ s.ns[left]? = some nl ∧ r ∉ nl.kids) := ⟨hgone, hks, hc1, hc2, hk, hat, hl, hrk⟩
  have GB : Hid (nl.lines.length + (nl.kids.map s.cnt).sum < 2 ^ 62 ∧ sizes nl.lines + (nl.kids.map s.byt).sum < 2 ^ 62) := ⟨hb1, hb2⟩
  have GV : Hid (vn1 = .slice (some ⟨b, 0, none⟩) s1.ns.length cap) := hvn
  have GK : Hid (na.vk = .slice (some ⟨kb, 0, none⟩) na.kids.length kc) := hvk
  obtain ⟨N, hN⟩ : ∃ N, s1.ns.length = N := ⟨_, rfl⟩
  have HN : Hid (s1.ns.length = N) := hN
  rw [hN] at a0 n1 lA lL lR hlen1
  clear h1 K1 hr1 hat1 hl1 hold htop1 hfr hgone hks hc1 hc2 hk hat hl hb1 hb2 hvn hvk hkc hrk h hN hlen
  go_wp2_with fail
  go_quiet (fail)
  go_wp2_with fail
  have HD : Hid (Rep o1 (w1.drewN nq) t s1 vn1 vg1 ∧ Keeps o o1 w (w1.drewN nq)) := ⟨H1.out.1.drewN nq, H1.out.2.drewN' nq⟩
  refine (halvesS_any (HD.out.1.lines left nl G.out.1.2.1 (by simp)) HD.out.1.lt (by simp) (by omega) GH.out.2.2.2.1).mono ?_
  rintro e w2 ⟨v1, v2, rfl, HS⟩
  obtain ⟨x1, y1, rfl, _, _⟩ := HS.1.form
  obtain ⟨x2, y2, rfl⟩ := owns_form HS.2.1
  obtain ⟨v1, hv1⟩ : ∃ v1, v1 = Value.slice x1 (nl.lines.take (nl.lines.length / 2)).length y1 := ⟨_, rfl⟩
  obtain ⟨v2, hv2⟩ : ∃ v2, v2 = Value.slice x2 (nl.lines.drop (nl.lines.length / 2)).length y2 := ⟨_, rfl⟩
  rw [← hv1, ← hv2] at HS
  have HE1 : Hid (nl.lines = [] → v1 = .slice none 0 0 ∧ v2 = .slice none 0 0) := HS.2.2.2
  obtain ⟨hcell2, o2, h2, K2⟩ := stepL HD.out.1 GV.out G.out.1.2.1 G.out.1.2.2 hrl HS
  obtain ⟨W3, hW3⟩ : ∃ W3, W3 = (w2.setCell ⟨b, left * 4, none⟩ v1).setCell ⟨b, r * 4, none⟩ v2 := ⟨_, rfl⟩
  have HW3 : Hid (W3 = (w2.setCell ⟨b, left * 4, none⟩ v1).setCell ⟨b, r * 4, none⟩ v2) := hW3
  rw [← hW3] at h2 K2
  have p1 : w2.cell? ⟨b, left * 4, none⟩ = some nl.vl := by rw [(hcell2 _).1]; simpa using cl0
  have p2 : ∀ j, w2.frozen? ⟨b, j, none⟩ = false := fun j => by rw [(hcell2 _).2]; simpa using cf j
  have p3 : (w2.cell? ⟨b, r * 4, none⟩).isSome = true := by
    rw [(hcell2 _).1]; obtain ⟨_, q0, _⟩ := HD.out.1.cellsAt G.out.1.2.2 GV.out; rw [q0]; rfl
  obtain ⟨pv, p3⟩ := Option.isSome_iff_exists.1 p3
  clear hcell2 hW3 HS
  have HV1 : Hid (v1 = Value.slice x1 (nl.lines.take (nl.lines.length / 2)).length y1) := hv1
  have HV2 : Hid (v2 = Value.slice x2 (nl.lines.drop (nl.lines.length / 2)).length y2) := hv2
  clear hv1 hv2
  have HH : Hid (Rep o2 W3 t ((s1.put left { nl with vl := v1, lines := nl.lines.take (nl.lines.length / 2) }).put r { nilNode with vl := v2, lines := nl.lines.drop (nl.lines.length / 2) }) vn1 vg1 ∧ Keeps o o2 w W3) := ⟨h2, HD.out.2.trans K2⟩
  clear h2 K2 a0 cl0 cl1 cl2 cl3 cf ca0 ca1 ca2 ca3 hkcell
  rw [HV1.out, HV2.out] at HW3
  generalize (nl.lines.take (nl.lines.length / 2)).length = M1 at *
  generalize (nl.lines.drop (nl.lines.length / 2)).length = M2 at *
  go_upto_region 4 with fail
  rw [← HW3.out]
  clear HW3 p1 p2 p3 pv
  have hlA := put_same (s := s1) { nl with vl := v1, lines := nl.lines.take (nl.lines.length / 2) } (by rw [HN.out]; exact lL)
  have GB1 : Hid (((s1.put left { nl with vl := v1, lines := nl.lines.take (nl.lines.length / 2) }).put r { nilNode with vl := v2, lines := nl.lines.drop (nl.lines.length / 2) }).ns[left]? = some { nl with vl := v1, lines := nl.lines.take (nl.lines.length / 2) } ∧
      ((s1.put left { nl with vl := v1, lines := nl.lines.take (nl.lines.length / 2) }).put r { nilNode with vl := v2, lines := nl.lines.drop (nl.lines.length / 2) }).ns[r]? = some { nilNode with vl := v2, lines := nl.lines.drop (nl.lines.length / 2) } ∧
      ((s1.put left { nl with vl := v1, lines := nl.lines.take (nl.lines.length / 2) }).put r { nilNode with vl := v2, lines := nl.lines.drop (nl.lines.length / 2) }).ns[at_]? = some na) :=
    ⟨by rw [put_ne _ (Ne.symm hrl)]; exact hlA, put_same _ (by rw [put_len, HN.out]; exact lR), by rw [put_ne _ (Ne.symm hra), put_ne _ (Ne.symm hne)]; exact G.out.1.1⟩
  clear hlA
  generalize hsB : (s1.put left { nl with vl := v1, lines := nl.lines.take (nl.lines.length / 2) }).put r { nilNode with vl := v2, lines := nl.lines.drop (nl.lines.length / 2) } = sB at HH GB1
  have HsB : Hid ((s1.put left { nl with vl := v1, lines := nl.lines.take (nl.lines.length / 2) }).put r { nilNode with vl := v2, lines := nl.lines.drop (nl.lines.length / 2) } = sB) := hsB
  clear hsB
  obtain ⟨a0, cl0, cl1, cl2, cl3, cf⟩ := HH.out.1.cellsAt GB1.out.1 GV.out
  have a0' : W3.cell? ⟨t, 0, none⟩ = some (.slice (some ⟨b, 0, none⟩) N cap) := by rw [a0, GV.out, HN.out]
  clear a0 cl0 cl2 cl3
  have cl1' : W3.cell? ⟨b, left * 4 + 1, none⟩ = some nl.vk := cl1
  clear cl1
  go_wp2_with fail
  have hkr0 := HH.out.1.kids left _ GB1.out.1 (by simp)
  have hkr : Row o2 W3 (.kids left) 3 1 nl.vk nl.kids.length (nums nl.kids) := hkr0
  clear hkr0
  refine (halvesI_any (l := nl.kids) hkr HH.out.1.lt (by simp) (by omega) GH.out.2.2.1).mono ?_
  rintro e w4 ⟨v3, v4, rfl, HS⟩
  clear hkr
  obtain ⟨x3, y3, rfl, _, _⟩ := HS.1.form
  obtain ⟨x4, y4, rfl⟩ := owns_form HS.2.1
  obtain ⟨v3, hv3⟩ : ∃ v3, v3 = Value.slice x3 (nl.kids.take (nl.kids.length / 2)).length y3 := ⟨_, rfl⟩
  obtain ⟨v4, hv4⟩ : ∃ v4, v4 = Value.slice x4 (nl.kids.drop (nl.kids.length / 2)).length y4 := ⟨_, rfl⟩
  rw [← hv3, ← hv4] at HS
  have HE3 : Hid (nl.kids = [] → v3 = .slice none 0 0 ∧ v4 = .slice none 0 0) := HS.2.2.2
  obtain ⟨hcell2, o4, h4, K4⟩ := stepK HH.out.1 GV.out GB1.out.1 GB1.out.2.1 hrl HS
  obtain ⟨W5, hW5⟩ : ∃ W5, W5 = (w4.setCell ⟨b, left * 4 + 1, none⟩ v3).setCell ⟨b, r * 4 + 1, none⟩ v4 := ⟨_, rfl⟩
  have HW5 : Hid (W5 = (w4.setCell ⟨b, left * 4 + 1, none⟩ v3).setCell ⟨b, r * 4 + 1, none⟩ v4) := hW5
  rw [← hW5] at h4 K4
  have p1 : w4.cell? ⟨b, left * 4 + 1, none⟩ = some nl.vk := by rw [(hcell2 _).1]; exact cl1'
  have p2 : ∀ j, w4.frozen? ⟨b, j, none⟩ = false := fun j => by rw [(hcell2 _).2]; exact cf j
  have p3 : (w4.cell? ⟨b, r * 4 + 1, none⟩).isSome = true := by
    rw [(hcell2 _).1]; obtain ⟨_, _, q1, _⟩ := HH.out.1.cellsAt GB1.out.2.1 GV.out; rw [q1]; rfl
  obtain ⟨pv, p3⟩ := Option.isSome_iff_exists.1 p3
  clear hcell2 hW5 HS
  have HV3 : Hid (v3 = Value.slice x3 (nl.kids.take (nl.kids.length / 2)).length y3) := hv3
  have HV4 : Hid (v4 = Value.slice x4 (nl.kids.drop (nl.kids.length / 2)).length y4) := hv4
  clear hv3 hv4
  have HI : Hid (Rep o4 W5 t ((sB.put left ⟨v1, v3, nl.lines.take (nl.lines.length / 2), nl.kids.take (nl.kids.length / 2), nl.count, nl.bytes⟩).put r ⟨v2, v4, nl.lines.drop (nl.lines.length / 2), nl.kids.drop (nl.kids.length / 2), 0, 0⟩) vn1 vg1 ∧ Keeps o o4 w W5) := ⟨h4, HH.out.2.trans K4⟩
  clear h4 K4 a0' cl1' cf
  rw [HV3.out, HV4.out] at HW5
  generalize (nl.kids.take (nl.kids.length / 2)).length = M3 at *
  generalize (nl.kids.drop (nl.kids.length / 2)).length = M4 at *
  go_upto_region 5 with fail
  rw [← HW5.out]
  clear HW5 p1 p2 p3 pv
  have lB : sB.ns.length = N := by rw [← HsB.out, put_len, put_len, HN.out]
  have GD : Hid (((sB.put left ⟨v1, v3, nl.lines.take (nl.lines.length / 2), nl.kids.take (nl.kids.length / 2), nl.count, nl.bytes⟩).put r ⟨v2, v4, nl.lines.drop (nl.lines.length / 2), nl.kids.drop (nl.kids.length / 2), 0, 0⟩).ns[left]? = some ⟨v1, v3, nl.lines.take (nl.lines.length / 2), nl.kids.take (nl.kids.length / 2), nl.count, nl.bytes⟩ ∧
      ((sB.put left ⟨v1, v3, nl.lines.take (nl.lines.length / 2), nl.kids.take (nl.kids.length / 2), nl.count, nl.bytes⟩).put r ⟨v2, v4, nl.lines.drop (nl.lines.length / 2), nl.kids.drop (nl.kids.length / 2), 0, 0⟩).ns[r]? = some ⟨v2, v4, nl.lines.drop (nl.lines.length / 2), nl.kids.drop (nl.kids.length / 2), 0, 0⟩ ∧
      ((sB.put left ⟨v1, v3, nl.lines.take (nl.lines.length / 2), nl.kids.take (nl.kids.length / 2), nl.count, nl.bytes⟩).put r ⟨v2, v4, nl.lines.drop (nl.lines.length / 2), nl.kids.drop (nl.kids.length / 2), 0, 0⟩).ns[at_]? = some na) :=
    ⟨by rw [put_ne _ (Ne.symm hrl)]; exact put_same _ (by rw [lB]; exact lL), put_same _ (by rw [put_len, lB]; exact lR), by rw [put_ne _ (Ne.symm hra), put_ne _ (Ne.symm hne)]; exact GB1.out.2.2⟩
  generalize hsD : (sB.put left ⟨v1, v3, nl.lines.take (nl.lines.length / 2), nl.kids.take (nl.kids.length / 2), nl.count, nl.bytes⟩).put r ⟨v2, v4, nl.lines.drop (nl.lines.length / 2), nl.kids.drop (nl.kids.length / 2), 0, 0⟩ = sD at HI GD
  have HsD : Hid ((sB.put left ⟨v1, v3, nl.lines.take (nl.lines.length / 2), nl.kids.take (nl.kids.length / 2), nl.count, nl.bytes⟩).put r ⟨v2, v4, nl.lines.drop (nl.lines.length / 2), nl.kids.drop (nl.kids.length / 2), 0, 0⟩ = sD) := hsD
  have lD : sD.ns.length = N := by rw [← hsD, put_len, put_len, lB]
  have HLD : Hid (sD.ns.length = N) := lD
  clear hsD lB lD
  obtain ⟨a0, ca0, ca1, ca2, ca3, cf⟩ := HI.out.1.cellsAt GD.out.2.2 GV.out
  rw [GV.out, HN.out] at a0
  rw [GK.out] at ca1
  clear ca0 ca2 ca3
  have hkl' : (k : Int) + 1 ≤ (na.kids.length : Int) := by omega
  have hwr : IntKind.i64.wrap ((k : Int) + 1) = (k : Int) + 1 := by rw [IntKind.wrap_i64]; omega
  have HC : Hid (∀ W : World, W.heap = (W5.alloc (.cells #[.int .i64 r] 3)).heap → W.os = W5.os → W.tape = W5.tape → W.output = W5.output → Calls Try.prog 60 #[.slice (some ⟨kb, 0, none⟩) na.kids.length kc, .int .i64 ((k : Int) + 1), .slice (some ⟨W5.heap.size, 0, none⟩) 1 1] W fun e w' =>
      ∃ x6 y6, e = .returned (.slice x6 (na.kids.length + 1) y6) ∧ (∀ j, w'.cell? ⟨b, j, none⟩ = W5.cell? ⟨b, j, none⟩ ∧ w'.frozen? ⟨b, j, none⟩ = false ∧ w'.cell? ⟨t, j, none⟩ = W5.cell? ⟨t, j, none⟩) ∧ ∃ o6, Rep o6 (w'.setCell ⟨b, at_ * 4 + 1, none⟩ (.slice x6 (na.kids.length + 1) y6)) t (sD.put at_ { na with vk := .slice x6 (na.kids.length + 1) y6, kids := na.kids.take (k + 1) ++ r :: na.kids.drop (k + 1) }) vn1 vg1 ∧
        Keeps o o6 w (w'.setCell ⟨b, at_ * 4 + 1, none⟩ (.slice x6 (na.kids.length + 1) y6))) := by
    intro W e1 e2 e3 e4
    have hr0 : Rep o4 W t sD vn1 vg1 := (HI.out.1.alloc (.cells #[.int .i64 r] 3)).heap e1
    have hk0 : Keeps o o4 w W := by
      have := HI.out.2.alloc (.cells #[.int .i64 r] 3)
      exact ⟨e2.trans this.os, e3.trans this.tape, e4.trans this.output, by rw [e1]; exact this.size, fun j hj hf => by rw [e1]; exact this.block j hj hf, this.own⟩
    have hrow := hr0.kids at_ na GD.out.2.2 (by simp)
    rw [GK.out] at hrow
    have hvb : W.heap[W5.heap.size]? = some (.cells #[.int .i64 r] 3 (0, 0)) := by rw [e1]; exact alloc_new W5 _
    have hc := insI_any (x := .int .i64 r) (i := k + 1) (vb := W5.heap.size) hrow (nums_one _) hr0.lt (by simp) (by omega) (by omega) hvb rfl (HI.out.1.free_new (Nat.le_refl _))
    have ek : (((k + 1 : Nat)) : Int) = (k : Int) + 1 := by omega
    rw [ek] at hc
    refine hc.mono ?_
    rintro e w' ⟨v', o6, rfl, hr6, kb6⟩
    obtain ⟨x6, y6, rfl, _, _⟩ := hr6.form
    have hb6 : w'.heap[b]? = W5.heap[b]? := by
      have hobN : o4 b = .nodes := HI.out.1.nodes.2 b (by rw [GV.out]; rfl)
      have hbl : b < W5.heap.size := HI.out.1.lt b (by rw [hobN]; simp)
      rw [kb6.block b (by rw [e1]; simp; omega) (by rw [hobN]; simp), e1]; exact alloc_old' W5 _ b hbl
    have ht6 : w'.heap[t]? = W5.heap[t]? := by
      rw [kb6.block t hr0.tlt (by rw [hr0.ot]; simp), e1]; exact alloc_old' W5 _ t HI.out.1.tlt
    refine ⟨x6, y6, rfl, fun j => ⟨by simp [World.cell?, hb6], ?_, by simp [World.cell?, ht6]⟩, ?_⟩
    · have : w'.frozen? ⟨b, j, none⟩ = W5.frozen? ⟨b, j, none⟩ := by simp [World.frozen?, hb6]
      rw [this]; exact cf j
    · have x1 := (RepX.open_ hr0 (.kids at_)).kb kb6 (by simp) (by simp) (by simp)
      have hlen : (na.kids.take (k + 1) ++ r :: na.kids.drop (k + 1)).length = na.kids.length + 1 := by simp; omega
      have hr6' : Row o6 w' (.kids at_) 3 1 (.slice x6 (na.kids.length + 1) y6) (na.kids.take (k + 1) ++ r :: na.kids.drop (k + 1)).length (nums (na.kids.take (k + 1) ++ r :: na.kids.drop (k + 1))) := by
        rw [hlen]; simpa [nums, List.map_take, List.map_drop] using hr6
      have x2 := x1.storeK (.inl rfl) GD.out.2.2 GV.out hr6'
      exact ⟨o6, x2, (hk0.trans (kb6.keeps (by simp))).setCell (x2.ob GV.out)⟩
  have htb : b ≠ t := by intro e; have := HI.out.1.nodes.2 b (by rw [GV.out]; rfl); rw [e, HI.out.1.ot] at this; cases this
  have hal : ((W5.alloc (.cells #[.int .i64 r] 3))).cell? ⟨t, 0, none⟩ = some (.slice (some ⟨b, 0, none⟩) N cap) := by
    rw [← a0]; simp [World.cell?, alloc_old' W5 _ t HI.out.1.tlt]
  have hal2 : ((W5.alloc (.cells #[.int .i64 r] 3))).cell? ⟨b, at_ * 4 + 1, none⟩ = some (.slice (some ⟨kb, 0, none⟩) na.kids.length kc) := by
    rw [← ca1]; simp [World.cell?, alloc_old' W5 _ b (HI.out.1.lt b (HI.out.1.ob GV.out))]
  have rule : ∀ w', Tk t (.slice (some ⟨b, 0, none⟩) N cap) w' → w'.cell? ⟨t, 0, none⟩ = some (.slice (some ⟨b, 0, none⟩) N cap) := fun _ h => h
  have FO : Hid (∀ u (j : Nat), j ≠ at_ → j ≠ left → j ≠ r → (sD.put at_ { na with vk := u, kids := na.kids.take (k + 1) ++ r :: na.kids.drop (k + 1) }).ns[j]? = s1.ns[j]?) := by
    intro u j h1 h2 h3
    rw [put_ne _ h1, ← HsD.out, put_ne _ h3, put_ne _ h2, ← HsB.out, put_ne _ h3, put_ne _ h2]
  have FS : Hid (∀ c ∈ nl.kids, s1.ns[c]? = s.ns[c]? ∧ c < N) := by
    intro c hc
    have hlt := (GH.out.2.1 c hc).1
    have := G.out.2.1 c _ (List.getElem?_eq_getElem hlt)
    exact ⟨by rw [this, List.getElem?_eq_getElem hlt], by rw [← HN.out]; exact (List.getElem?_eq_some_iff.1 this).1⟩
  have FC : Hid (∀ u, ∀ c ∈ nl.kids, (sD.put at_ { na with vk := u, kids := na.kids.take (k + 1) ++ r :: na.kids.drop (k + 1) }).ns[c]? = s.ns[c]?) := by
    intro u c hc
    obtain ⟨_, h2, h3⟩ := GH.out.2.1 c hc
    rw [FO.out u c h3 h2 (fun e => GH.out.2.2.2.2.2.2.2 (by rw [← e]; exact hc)), (FS.out c hc).1]
  have FW1 : Hid (∀ u (W : World) o6, Rep o6 W t (sD.put at_ { na with vk := u, kids := na.kids.take (k + 1) ++ r :: na.kids.drop (k + 1) }) vn1 vg1 → Calls Try.prog 53 #[.pointer (some ⟨t, 0, none⟩), .int .i64 left] W fun e w' => e = .returned (.tuple #[]) ∧
      Rep o6 w' t ((sD.put at_ { na with vk := u, kids := na.kids.take (k + 1) ++ r :: na.kids.drop (k + 1) }).put left ⟨v1, v3, nl.lines.take (nl.lines.length / 2), nl.kids.take (nl.kids.length / 2), (nl.lines.take (nl.lines.length / 2)).length + ((nl.kids.take (nl.kids.length / 2)).map s.cnt).sum, sizes (nl.lines.take (nl.lines.length / 2)) + ((nl.kids.take (nl.kids.length / 2)).map s.byt).sum⟩) vn1 vg1 ∧ Keeps o6 o6 W w') := by
    intro u W o6 hr6
    have hL : (sD.put at_ { na with vk := u, kids := na.kids.take (k + 1) ++ r :: na.kids.drop (k + 1) }).ns[left]? = some ⟨v1, v3, nl.lines.take (nl.lines.length / 2), nl.kids.take (nl.kids.length / 2), nl.count, nl.bytes⟩ := by rw [put_ne _ hne]; exact GD.out.1
    have e1 : (nl.kids.take (nl.kids.length / 2)).map (sD.put at_ { na with vk := u, kids := na.kids.take (k + 1) ++ r :: na.kids.drop (k + 1) }).cnt = (nl.kids.take (nl.kids.length / 2)).map s.cnt := List.map_congr_left fun c hc => by simp only [St.cnt, FC.out u c (List.mem_of_mem_take hc)]
    have e2 : (nl.kids.take (nl.kids.length / 2)).map (sD.put at_ { na with vk := u, kids := na.kids.take (k + 1) ++ r :: na.kids.drop (k + 1) }).byt = (nl.kids.take (nl.kids.length / 2)).map s.byt := List.map_congr_left fun c hc => by simp only [St.byt, FC.out u c (List.mem_of_mem_take hc)]
    have b1 := sum_take nl.kids s.cnt (nl.kids.length / 2)
    have b2 := sum_take nl.kids s.byt (nl.kids.length / 2)
    have b3 := sizes_take nl.lines (nl.lines.length / 2)
    have b4 : (nl.lines.take (nl.lines.length / 2)).length ≤ nl.lines.length := by simp; omega
    have gb := GB.out
    have hw := weigh_any hr6 hL (fun c hc => ⟨by rw [put_len, HLD.out]; exact (FS.out c (List.mem_of_mem_take hc)).2, (GH.out.2.1 c (List.mem_of_mem_take hc)).2.1⟩) (by rw [e1]; show (nl.lines.take (nl.lines.length / 2)).length + _ < _; omega) (by rw [e2]; show sizes (nl.lines.take (nl.lines.length / 2)) + _ < _; omega)
    rw [e1, e2] at hw
    exact hw
  have FW2 : Hid (∀ u (W : World) o6 X, Rep o6 W t ((sD.put at_ { na with vk := u, kids := na.kids.take (k + 1) ++ r :: na.kids.drop (k + 1) }).put left X) vn1 vg1 → Calls Try.prog 53 #[.pointer (some ⟨t, 0, none⟩), .int .i64 r] W fun e w' => e = .returned (.tuple #[]) ∧
      Rep o6 w' t (((sD.put at_ { na with vk := u, kids := na.kids.take (k + 1) ++ r :: na.kids.drop (k + 1) }).put left X).put r ⟨v2, v4, nl.lines.drop (nl.lines.length / 2), nl.kids.drop (nl.kids.length / 2), (nl.lines.drop (nl.lines.length / 2)).length + ((nl.kids.drop (nl.kids.length / 2)).map s.cnt).sum, sizes (nl.lines.drop (nl.lines.length / 2)) + ((nl.kids.drop (nl.kids.length / 2)).map s.byt).sum⟩) vn1 vg1 ∧ Keeps o6 o6 W w') := by
    intro u W o6 X hr6
    have hL : ((sD.put at_ { na with vk := u, kids := na.kids.take (k + 1) ++ r :: na.kids.drop (k + 1) }).put left X).ns[r]? = some ⟨v2, v4, nl.lines.drop (nl.lines.length / 2), nl.kids.drop (nl.kids.length / 2), 0, 0⟩ := by rw [put_ne _ hrl, put_ne _ hra]; exact GD.out.2.1
    have FC2 : ∀ c ∈ nl.kids, ((sD.put at_ { na with vk := u, kids := na.kids.take (k + 1) ++ r :: na.kids.drop (k + 1) }).put left X).ns[c]? = s.ns[c]? := fun c hc => by rw [put_ne _ (GH.out.2.1 c hc).2.1]; exact FC.out u c hc
    have e1 : (nl.kids.drop (nl.kids.length / 2)).map ((sD.put at_ { na with vk := u, kids := na.kids.take (k + 1) ++ r :: na.kids.drop (k + 1) }).put left X).cnt = (nl.kids.drop (nl.kids.length / 2)).map s.cnt := List.map_congr_left fun c hc => by simp only [St.cnt, FC2 c (List.mem_of_mem_drop hc)]
    have e2 : (nl.kids.drop (nl.kids.length / 2)).map ((sD.put at_ { na with vk := u, kids := na.kids.take (k + 1) ++ r :: na.kids.drop (k + 1) }).put left X).byt = (nl.kids.drop (nl.kids.length / 2)).map s.byt := List.map_congr_left fun c hc => by simp only [St.byt, FC2 c (List.mem_of_mem_drop hc)]
    have b1 := sum_drop nl.kids s.cnt (nl.kids.length / 2)
    have b2 := sum_drop nl.kids s.byt (nl.kids.length / 2)
    have b3 := sizes_drop nl.lines (nl.lines.length / 2)
    have b4 : (nl.lines.drop (nl.lines.length / 2)).length ≤ nl.lines.length := by simp
    have gb := GB.out
    have hw := weigh_any hr6 hL (fun c hc => ⟨by rw [put_len, put_len, HLD.out]; exact (FS.out c (List.mem_of_mem_drop hc)).2, fun e => GH.out.2.2.2.2.2.2.2 (by rw [← e]; exact List.mem_of_mem_drop hc)⟩) (by rw [e1]; show (nl.lines.drop (nl.lines.length / 2)).length + _ < _; omega) (by rw [e2]; show sizes (nl.lines.drop (nl.lines.length / 2)) + _ < _; omega)
    rw [e1, e2] at hw
    exact hw
  have FIN : Hid (∀ u, SplitTo s at_ k left na nl r (((sD.put at_ { na with vk := u, kids := na.kids.take (k + 1) ++ r :: na.kids.drop (k + 1) }).put left ⟨v1, v3, nl.lines.take (nl.lines.length / 2), nl.kids.take (nl.kids.length / 2), (nl.lines.take (nl.lines.length / 2)).length + ((nl.kids.take (nl.kids.length / 2)).map s.cnt).sum, sizes (nl.lines.take (nl.lines.length / 2)) + ((nl.kids.take (nl.kids.length / 2)).map s.byt).sum⟩).put r ⟨v2, v4, nl.lines.drop (nl.lines.length / 2), nl.kids.drop (nl.kids.length / 2), (nl.lines.drop (nl.lines.length / 2)).length + ((nl.kids.drop (nl.kids.length / 2)).map s.cnt).sum, sizes (nl.lines.drop (nl.lines.length / 2)) + ((nl.kids.drop (nl.kids.length / 2)).map s.byt).sum⟩)) := by
    intro u
    have hgt : sD.gone = s1.gone ∧ sD.top = s1.top := by rw [← HsD.out, ← HsB.out]; exact ⟨rfl, rfl⟩
    refine ⟨?_, ?_, ?_, ?_, ⟨v1, v3, ?_, fun e => (HE1.out e).1, fun e => (HE3.out e).1⟩, ⟨v2, v4, ?_, fun e => (HE1.out e).2, fun e => (HE3.out e).2⟩, ⟨u, ?_⟩⟩
    · show FreshIn s r sD.gone
      rw [hgt.1]
      rcases G.out.2.2.2 with ⟨e1, e2⟩ | ⟨e1, e2, e3, _⟩
      · exact .inl ⟨e1, by rw [← e2]; exact G.out.1.2.2⟩
      · exact .inr ⟨e1, e2, e3⟩
    · show sD.top = s.top
      rw [hgt.2, G.out.2.2.1]
    · rw [put_len, put_len, put_len, HLD.out, ← HN.out]
      rcases G.out.2.2.2 with ⟨e1, e2⟩ | ⟨e1, e2, e3, e4⟩
      · have := (List.getElem?_eq_some_iff.1 G.out.1.2.2).1
        rw [e2] at this ⊢; omega
      · rw [e4, e3]; simp
    · intro j h1 h2 h3
      rw [put_ne _ h3, put_ne _ h2, FO.out u j h1 h2 h3]
      rcases G.out.2.2.2 with ⟨e1, e2⟩ | ⟨e1, e2, e3, e4⟩
      · rw [e2]
      · rw [e4, List.getElem?_append]
        split
        · rfl
        · rw [List.getElem?_eq_none (by simp; omega), List.getElem?_eq_none (by omega)]
    · rw [put_ne _ (Ne.symm hrl)]; exact put_same _ (by rw [put_len, HLD.out]; exact lL)
    · exact put_same _ (by rw [put_len, put_len, HLD.out]; exact lR)
    · rw [put_ne _ (Ne.symm hra), put_ne _ (Ne.symm hne)]; exact put_same _ (by rw [HLD.out]; exact lA)
  refine wp_region_noPanic ?_
  refine wp_region_held_drew (S := Tk t (.slice (some ⟨b, 0, none⟩) N cap)) (by kernel_rfl) (a0) (fun hHeld => ?_)
  refine takeAt 0 (some 63) ?_ rfl rfl (by kernel_rfl) (by kernel_rfl) (by kernel_rfl) (fun _ _ _ h => h) (Or.inl ⟨by rfl, ?_⟩) hHeld ?_
  rotate_left
  · intro w hSw
    go_simp <;> with_reducible rfl
  try simp only [Act.put, List.setIfInBounds_toArray, List.set_cons_zero, List.set_cons_succ]
  refine takeAt 1 (some 64) ?_ rfl rfl (by kernel_rfl) (by kernel_rfl) (by kernel_rfl) (fun _ _ _ h => h) (Or.inl ⟨by rfl, ?_⟩) hHeld ?_
  rotate_left
  · intro w hSw
    go_simp <;> with_reducible rfl
  try simp only [Act.put, List.setIfInBounds_toArray, List.set_cons_zero, List.set_cons_succ]
  refine takeAt 2 (some 65) ?_ rfl rfl (by kernel_rfl) (by kernel_rfl) (by kernel_rfl) (fun _ _ _ h => h) (Or.inl ⟨by rfl, ?_⟩) hHeld ?_
  rotate_left
  · intro w hSw
    go_simp <;> with_reducible rfl
  try simp only [Act.put, List.setIfInBounds_toArray, List.set_cons_zero, List.set_cons_succ]
  refine takeAt 3 (some 66) ?_ rfl rfl (by kernel_rfl) (by kernel_rfl) (by kernel_rfl) (fun _ _ _ h => h) (Or.inl ⟨by rfl, ?_⟩) hHeld ?_
  rotate_left
  · intro w hSw
    go_simp <;> with_reducible rfl
  try simp only [Act.put, List.setIfInBounds_toArray, List.set_cons_zero, List.set_cons_succ]
  refine takeAt 4 (some 67) ?_ rfl rfl (by kernel_rfl) (by kernel_rfl) (by kernel_rfl) (fun _ _ _ h => h) (Or.inl ⟨by rfl, ?_⟩) hHeld ?_
  rotate_left
  · intro w hSw
    go_simp <;> with_reducible rfl
  try simp only [Act.put, List.setIfInBounds_toArray, List.set_cons_zero, List.set_cons_succ]
  refine takeAt 5 (some 68) ?_ rfl rfl (by kernel_rfl) (by kernel_rfl) (by kernel_rfl) (fun _ _ _ h => h) (Or.inl ⟨by rfl, ?_⟩) hHeld ?_
  rotate_left
  · intro w hSw
    go_simp <;> with_reducible rfl
  try simp only [Act.put, List.setIfInBounds_toArray, List.set_cons_zero, List.set_cons_succ]
  refine takeAt 6 (some 69) ?_ rfl rfl (by kernel_rfl) (by kernel_rfl) (by kernel_rfl) (fun _ _ _ h => h) (Or.inl ⟨by rfl, ?_⟩) hHeld ?_
  rotate_left
  · intro w hSw
    go_simp <;> with_reducible rfl
  try simp only [Act.put, List.setIfInBounds_toArray, List.set_cons_zero, List.set_cons_succ]
  refine takeAt 7 (some 70) ?_ rfl rfl (by kernel_rfl) (by kernel_rfl) (by kernel_rfl) (fun _ _ _ h => h) (Or.inl ⟨by rfl, ?_⟩) hHeld ?_
  rotate_left
  · intro w hSw
    go_simp <;> with_reducible rfl
  try simp only [Act.put, List.setIfInBounds_toArray, List.set_cons_zero, List.set_cons_succ]
  refine takeAt 8 (some 71) ?_ rfl rfl (by kernel_rfl) (by kernel_rfl) (by kernel_rfl) (fun _ _ _ h => h) (Or.inl ⟨by rfl, ?_⟩) hHeld ?_
  rotate_left
  · intro w hSw
    go_simp <;> with_reducible rfl
  try simp only [Act.put, List.setIfInBounds_toArray, List.set_cons_zero, List.set_cons_succ]
  refine takeAt 9 (some 72) ?_ rfl rfl (by kernel_rfl) (by kernel_rfl) (by kernel_rfl) (fun _ _ _ h => h) (Or.inl ⟨by rfl, ?_⟩) hHeld ?_
  rotate_left
  · intro w hSw
    go_simp <;> with_reducible rfl
  try simp only [Act.put, List.setIfInBounds_toArray, List.set_cons_zero, List.set_cons_succ]
  refine takeAt 10 (some 73) ?_ rfl rfl (by kernel_rfl) (by kernel_rfl) (by kernel_rfl) (fun _ _ _ h => h) (Or.inl ⟨by rfl, ?_⟩) hHeld ?_
  rotate_left
  · intro w hSw
    go_simp <;> with_reducible rfl
  try simp only [Act.put, List.setIfInBounds_toArray, List.set_cons_zero, List.set_cons_succ]
  refine takeAt 11 (some 74) ?_ rfl rfl (by kernel_rfl) (by kernel_rfl) (by kernel_rfl) (fun _ _ _ h => h) (Or.inl ⟨by rfl, ?_⟩) hHeld ?_
  rotate_left
  · intro w hSw
    go_simp <;> with_reducible rfl
  try simp only [Act.put, List.setIfInBounds_toArray, List.set_cons_zero, List.set_cons_succ]
  refine takeAt 13 (some 76) ?_ rfl rfl (by kernel_rfl) (by kernel_rfl) (by kernel_rfl) (fun _ _ _ h => h) (Or.inl ⟨by rfl, ?_⟩) hHeld ?_
  rotate_left
  · intro w hSw
    go_simp <;> with_reducible rfl
  try simp only [Act.put, List.setIfInBounds_toArray, List.set_cons_zero, List.set_cons_succ]
  refine takeAt 14 (some 77) ?_ rfl rfl (by kernel_rfl) (by kernel_rfl) (by kernel_rfl) (fun _ _ _ h => h) (Or.inl ⟨by rfl, ?_⟩) hHeld ?_
  rotate_left
  · intro w hSw
    go_simp <;> with_reducible rfl
  try simp only [Act.put, List.setIfInBounds_toArray, List.set_cons_zero, List.set_cons_succ]
  refine takeAt 15 (some 78) ?_ rfl rfl (by kernel_rfl) (by kernel_rfl) (by kernel_rfl) (fun _ _ _ h => h) (Or.inl ⟨by rfl, ?_⟩) hHeld ?_
  rotate_left
  · intro w hSw
    go_simp <;> with_reducible rfl
  try simp only [Act.put, List.setIfInBounds_toArray, List.set_cons_zero, List.set_cons_succ]
  refine wpAnyH_ready (rs := [12, 16]) (by kernel_rfl) (by simp) ?_
  refine AllReadyH.cons rfl (fun K hK => ?_) (AllReadyH.cons rfl (fun K hK => ?_) AllReadyH.nil)
  · go_simp
    refine hK.out _ _ hHeld (fun hHeld => ?_)
    clear hK K
    try simp only [Act.put, List.setIfInBounds_toArray, List.set_cons_zero, List.set_cons_succ]
    refine wpAnyH_ready (rs := [16]) (by kernel_rfl) (by simp) ?_
    refine AllReadyH.cons rfl (fun K hK => ?_) AllReadyH.nil
    go_simp
    refine hK.out _ _ (show Tk _ _ _ from hal) (fun hHeld => ?_)
    clear hK K
    try simp only [Act.put, List.setIfInBounds_toArray, List.set_cons_zero, List.set_cons_succ]
    refine callAt 17 80 60 (vals := #[.slice (some ⟨kb, 0, none⟩) na.kids.length kc, .int .i64 ((k : Int) + 1), .slice (some ⟨W5.heap.size, 0, none⟩) 1 1]) (by kernel_rfl) rfl rfl rfl rfl (by simp [Act.eval]) Try.func60 (by kernel_rfl) (by kernel_rfl) ?_
    refine (HC.out _ (by rfl) (by rfl) (by rfl) (by rfl)).mono ?_
    rintro e w6 ⟨x6, y6, rfl, p6, HF⟩
    refine ⟨_, rfl, show Tk _ _ _ from ((p6 0).2.2).trans a0, fun hHeld => ?_⟩
    have q2 := ((p6 (at_ * 4 + 1)).1).trans ca1
    have q3 := (p6 (at_ * 4 + 1)).2.1
    clear p6
    try simp only [Act.put, List.setIfInBounds_toArray, List.set_cons_zero, List.set_cons_succ]
    refine takeAt 18 (some 81) ?_ rfl rfl (by kernel_rfl) (by kernel_rfl) (by kernel_rfl) (fun _ _ _ h => h) (Or.inl ⟨by rfl, ?_⟩) hHeld ?_
    rotate_left
    · intro w hSw
      go_simp <;> with_reducible rfl
    try simp only [Act.put, List.setIfInBounds_toArray, List.set_cons_zero, List.set_cons_succ]
    refine takeAt 19 (some 82) ?_ rfl rfl (by kernel_rfl) (by kernel_rfl) (by kernel_rfl) (fun _ _ _ h => h) (Or.inl ⟨by rfl, ?_⟩) hHeld ?_
    rotate_left
    · intro w hSw
      go_simp <;> with_reducible rfl
    try simp only [Act.put, List.setIfInBounds_toArray, List.set_cons_zero, List.set_cons_succ]
    refine wpAnyH_ready (rs := [20]) (by kernel_rfl) (by simp) ?_
    refine AllReadyH.cons rfl (fun K hK => ?_) AllReadyH.nil
    go_simp
    refine hK.out _ _ (show Tk _ _ _ from ?_) (fun hHeld => ?_)
    · exact (World.cell?_setCell_other _ _ _ _ (fun e => htb (by injection e))).trans hHeld
    clear hK K
    try simp only [Act.put, List.setIfInBounds_toArray, List.set_cons_zero, List.set_cons_succ]
    refine wpAnyH_done (by kernel_rfl) ?_ _
    refine NoPanic.normal ?_
    go_wp2_with fail
    obtain ⟨o6, h6, k6⟩ := HF
    refine (FW1.out _ _ _ h6).mono ?_
    rintro e w7 ⟨rfl, h7, k7⟩
    go_wp2_with fail
    refine (FW2.out _ _ _ _ h7).mono ?_
    rintro e w8 ⟨rfl, h8, k8⟩
    go_wp2_with fail
    go_end0
    exact ⟨rfl, r, _, FIN.out _, o6, vn1, vg1, h8, (k6.trans k7).trans k8⟩
  · go_simp
    refine hK.out _ _ (show Tk _ _ _ from hal) (fun hHeld => ?_)
    clear hK K
    try simp only [Act.put, List.setIfInBounds_toArray, List.set_cons_zero, List.set_cons_succ]
    refine wpAnyH_ready (rs := [12]) (by kernel_rfl) (by simp) ?_
    refine AllReadyH.cons rfl (fun K hK => ?_) AllReadyH.nil
    go_simp
    refine hK.out _ _ hHeld (fun hHeld => ?_)
    clear hK K
    try simp only [Act.put, List.setIfInBounds_toArray, List.set_cons_zero, List.set_cons_succ]
    refine callAt 17 80 60 (vals := #[.slice (some ⟨kb, 0, none⟩) na.kids.length kc, .int .i64 ((k : Int) + 1), .slice (some ⟨W5.heap.size, 0, none⟩) 1 1]) (by kernel_rfl) rfl rfl rfl rfl (by simp [Act.eval]) Try.func60 (by kernel_rfl) (by kernel_rfl) ?_
    refine (HC.out _ (by rfl) (by rfl) (by rfl) (by rfl)).mono ?_
    rintro e w6 ⟨x6, y6, rfl, p6, HF⟩
    refine ⟨_, rfl, show Tk _ _ _ from ((p6 0).2.2).trans a0, fun hHeld => ?_⟩
    have q2 := ((p6 (at_ * 4 + 1)).1).trans ca1
    have q3 := (p6 (at_ * 4 + 1)).2.1
    clear p6
    try simp only [Act.put, List.setIfInBounds_toArray, List.set_cons_zero, List.set_cons_succ]
    refine takeAt 18 (some 81) ?_ rfl rfl (by kernel_rfl) (by kernel_rfl) (by kernel_rfl) (fun _ _ _ h => h) (Or.inl ⟨by rfl, ?_⟩) hHeld ?_
    rotate_left
    · intro w hSw
      go_simp <;> with_reducible rfl
    try simp only [Act.put, List.setIfInBounds_toArray, List.set_cons_zero, List.set_cons_succ]
    refine takeAt 19 (some 82) ?_ rfl rfl (by kernel_rfl) (by kernel_rfl) (by kernel_rfl) (fun _ _ _ h => h) (Or.inl ⟨by rfl, ?_⟩) hHeld ?_
    rotate_left
    · intro w hSw
      go_simp <;> with_reducible rfl
    try simp only [Act.put, List.setIfInBounds_toArray, List.set_cons_zero, List.set_cons_succ]
    refine wpAnyH_ready (rs := [20]) (by kernel_rfl) (by simp) ?_
    refine AllReadyH.cons rfl (fun K hK => ?_) AllReadyH.nil
    go_simp
    refine hK.out _ _ (show Tk _ _ _ from ?_) (fun hHeld => ?_)
    · exact (World.cell?_setCell_other _ _ _ _ (fun e => htb (by injection e))).trans hHeld
    clear hK K
    try simp only [Act.put, List.setIfInBounds_toArray, List.set_cons_zero, List.set_cons_succ]
    refine wpAnyH_done (by kernel_rfl) ?_ _
    refine NoPanic.normal ?_
    go_wp2_with fail
    obtain ⟨o6, h6, k6⟩ := HF
    refine (FW1.out _ _ _ h6).mono ?_
    rintro e w7 ⟨rfl, h7, k7⟩
    go_wp2_with fail
    refine (FW2.out _ _ _ _ h7).mono ?_
    rintro e w8 ⟨rfl, h8, k8⟩
    go_wp2_with fail
    go_end0
    exact ⟨rfl, r, _, FIN.out _, o6, vn1, vg1, h8, (k6.trans k7).trans k8⟩
end
end Go.Proofs.Ytfnhbjokokjhfaa
