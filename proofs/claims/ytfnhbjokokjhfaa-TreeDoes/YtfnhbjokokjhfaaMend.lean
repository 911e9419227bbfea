/- The call mend: a kid of the right width, one that is too wide, one that lacks. -/
import Derived.Test.YtfnhbjokokjhfaaPlain
import Derived.Test.YtfnhbjokokjhfaaGrow
namespace Go.Proofs.Ytfnhbjokokjhfaa
open Go.ChangeShapes Go.WideShapes Go.ChangeAt Go.RowKit
section
variable {o : Own} {w : World} {t : Nat} {s : St} {vn vg : Value}
theorem mend_same (h : Rep o w t s vn vg) {at_ k c : Nat} {na nc : Node} (hat : s.ns[at_]? = some na) (hk : na.kids[k]? = some c) (hc : s.ns[c]? = some nc) (hw : 4 ≤ nc.lines.length + nc.kids.length ∧ nc.lines.length + nc.kids.length ≤ 8) :
    Calls Try.prog 52 #[.pointer (some ⟨t, 0, none⟩), .int .i64 at_, .int .i64 k] w fun e w' => e = .returned (.tuple #[]) ∧ ∃ q, w' = w.drewN q := by
  have lA : at_ < s.ns.length := (List.getElem?_eq_some_iff.1 hat).1
  obtain ⟨b, cap, hvn, hob, n1, n2, hcc⟩ := h.nodeCells (by omega)
  clear hcc
  obtain ⟨a0, ca0, ca1, ca2, ca3, cf⟩ := h.cellsAt hat hvn
  have hkl := (List.getElem?_eq_some_iff.1 hk).1
  obtain ⟨kb, kc, hvk, hko, hk1, hk2, hkc⟩ := kidsCells h hat (by simp) (by omega)
  have kc0 := (hkc k c hk).1
  rw [hvk] at ca1
  rw [hvn] at a0
  have HW := width_any h hc (by omega)
  unfold maxLen at n2 hk2
  generalize nc.lines.length + nc.kids.length = Wd at *
  have hd1 : decide ((8 : Int) < (Wd : Int)) = false := by simp; omega
  have hd2 : decide ((Wd : Int) < 4) = false := by simp; omega
  clear h hat hk hc hkc hvn hvk ca0 ca2 ca3 cf
  go_enter Try.func52, Try.ntmps52
  go_wp2_with (go_at_call 33; refine HW.mono ?_; rintro e w1 ⟨rfl, q, rfl⟩)
  go_end0
  exact ⟨rfl, _, rfl⟩
theorem mend_split (h : Rep o w t s vn vg) {at_ k c : Nat} {na nc : Node} (hat : s.ns[at_]? = some na) (hk : na.kids[k]? = some c) (hc : s.ns[c]? = some nc) (hw : 8 < nc.lines.length + nc.kids.length ∧ nc.lines.length + nc.kids.length < 1000000) (Q : World → Prop)
    (HS : ∀ q, Calls Try.prog 54 #[.pointer (some ⟨t, 0, none⟩), .int .i64 at_, .int .i64 k] (w.drewN q) fun e w' => e = .returned (.tuple #[]) ∧ Q w') :
    Calls Try.prog 52 #[.pointer (some ⟨t, 0, none⟩), .int .i64 at_, .int .i64 k] w fun e w' => e = .returned (.tuple #[]) ∧ Q w' := by
  have lA : at_ < s.ns.length := (List.getElem?_eq_some_iff.1 hat).1
  obtain ⟨b, cap, hvn, hob, n1, n2, hcc⟩ := h.nodeCells (by omega)
  clear hcc
  obtain ⟨a0, ca0, ca1, ca2, ca3, cf⟩ := h.cellsAt hat hvn
  have hkl := (List.getElem?_eq_some_iff.1 hk).1
  obtain ⟨kb, kc, hvk, hko, hk1, hk2, hkc⟩ := kidsCells h hat (by simp) (by omega)
  have kc0 := (hkc k c hk).1
  rw [hvk] at ca1
  rw [hvn] at a0
  have HW := width_any h hc (by omega)
  unfold maxLen at n2 hk2
  generalize nc.lines.length + nc.kids.length = Wd at *
  have hd1 : decide ((8 : Int) < (Wd : Int)) = true := by simp; omega
  have HS' : Hid (∀ q, Calls Try.prog 54 #[.pointer (some ⟨t, 0, none⟩), .int .i64 at_, .int .i64 k] (w.drewN q) fun e w' => e = .returned (.tuple #[]) ∧ Q w') := HS
  clear h hat hk hc hkc hvn hvk ca0 ca2 ca3 cf HS
  go_enter Try.func52, Try.ntmps52
  go_wp2_with (first | (go_at_call 33; refine HW.mono ?_; rintro e w1 ⟨rfl, q, rfl⟩) | (go_at_call 54; refine (HS'.out _).mono ?_; rintro e w2 ⟨rfl, HQ⟩))
  go_end0
  exact ⟨rfl, HQ⟩
theorem mend_join (h : Rep o w t s vn vg) {at_ k m c left : Nat} {na nc : Node} (hat : s.ns[at_]? = some na) (hk : na.kids[k]? = some c) (hc : s.ns[c]? = some nc) (hw : nc.lines.length + nc.kids.length < 4) (hl2 : 2 ≤ na.kids.length) (hm : m = min k (na.kids.length - 2)) (hleft : na.kids[m]? = some left) (Q : World → Prop) (JP : St → Prop)
    (HJ : ∀ q, Calls Try.prog 57 #[.pointer (some ⟨t, 0, none⟩), .int .i64 at_, .int .i64 m] (w.drewN q) fun e w' => e = .returned (.tuple #[]) ∧ ∃ s1, JP s1 ∧ Did o w t s1 w')
    (HA : ∀ s1, JP s1 → ∃ u n1, u.ownBlock = na.vk.ownBlock ∧ s1.ns[at_]? = some { na with vk := u, kids := na.kids.take (m + 1) ++ na.kids.drop (m + 2) } ∧ s1.ns[left]? = some n1 ∧ n1.lines.length + n1.kids.length < 1000000)
    (HS : ∀ s1 w1, JP s1 → Did o w t s1 w1 → 8 < s1.wid left → ∀ q, Calls Try.prog 54 #[.pointer (some ⟨t, 0, none⟩), .int .i64 at_, .int .i64 m] (w1.drewN q) fun e w' => e = .returned (.tuple #[]) ∧ Q w')
    (HQ : ∀ s1 w1 q, JP s1 → Did o w t s1 w1 → s1.wid left ≤ 8 → Q (w1.drewN q)) :
    Calls Try.prog 52 #[.pointer (some ⟨t, 0, none⟩), .int .i64 at_, .int .i64 k] w fun e w' => e = .returned (.tuple #[]) ∧ Q w' := by
  have lA : at_ < s.ns.length := (List.getElem?_eq_some_iff.1 hat).1
  obtain ⟨b, cap, hvn, hob, n1, n2, hcc⟩ := h.nodeCells (by omega)
  clear hcc
  obtain ⟨a0, ca0, ca1, ca2, ca3, cf⟩ := h.cellsAt hat hvn
  have hkl := (List.getElem?_eq_some_iff.1 hk).1
  obtain ⟨kb, kc, hvk, hko, hk1, hk2, hkc⟩ := kidsCells h hat (by simp) (by omega)
  have kc0 := (hkc k c hk).1
  have GV : Hid (na.vk = .slice (some ⟨kb, 0, none⟩) na.kids.length kc) := hvk
  rw [hvk] at ca1
  rw [hvn] at a0
  have HW := width_any h hc (by omega)
  unfold maxLen at n2 hk2
  generalize nc.lines.length + nc.kids.length = Wd at *
  have hd1 : decide ((8 : Int) < (Wd : Int)) = false := by simp; omega
  have hd2 : decide ((Wd : Int) < 4) = true := by simp; omega
  have HS' : Hid (∀ q, Calls Try.prog 57 #[.pointer (some ⟨t, 0, none⟩), .int .i64 at_, .int .i64 m] (w.drewN q) fun e w' => e = .returned (.tuple #[]) ∧ ∃ s1, JP s1 ∧ Did o w t s1 w') := HJ
  have HA' : Hid (∀ s1 w1, JP s1 → Did o w t s1 w1 → w1.cell? ⟨kb, m, none⟩ = some (.int .i64 left) ∧ s1.wid left < 1000000 ∧ ∀ q, Calls Try.prog 33 #[.pointer (some ⟨t, 0, none⟩), .int .i64 left] (w1.drewN q) fun e w' => e = .returned (.int .i64 (s1.wid left)) ∧ ∃ q', w' = w1.drewN q') := by
    rintro s1 w1 hJP ⟨o1, vn1, vg1, h1, K1⟩
    obtain ⟨u, n1, hu, hA1, hL1, hlt1⟩ := HA s1 hJP
    have hmk : (na.kids.take (m + 1) ++ na.kids.drop (m + 2))[m]? = some left := by
      have := (List.getElem?_eq_some_iff.1 hleft).1
      rw [List.getElem?_append_left (by simp; omega), List.getElem?_take_of_lt (by omega)]; exact hleft
    obtain ⟨kb', kc', hvk', _, _, _, hkc'⟩ := kidsCells h1 hA1 (by simp) (by simp; omega)
    have hkb : kb' = kb := by
      have e1 : u = .slice (some ⟨kb', 0, none⟩) _ kc' := hvk'
      rw [GV.out, e1] at hu; simpa [Value.ownBlock] using hu
    subst hkb
    have hwd : s1.wid left = n1.lines.length + n1.kids.length := by simp [St.wid, hL1, Node.wid]
    refine ⟨(hkc' m left hmk).1, by omega, fun q => ?_⟩
    refine (width_any (h1.drewN q) hL1 (by omega)).mono ?_
    rintro e w' ⟨rfl, q', rfl⟩
    exact ⟨by rw [hwd], _, drew2 _ _ _⟩
  have HSS : Hid (∀ s1 w1, JP s1 → Did o w t s1 w1 → 8 < s1.wid left → ∀ q, Calls Try.prog 54 #[.pointer (some ⟨t, 0, none⟩), .int .i64 at_, .int .i64 m] (w1.drewN q) fun e w' => e = .returned (.tuple #[]) ∧ Q w') := HS
  have HQ' : Hid (∀ s1 w1 q, JP s1 → Did o w t s1 w1 → s1.wid left ≤ 8 → Q (w1.drewN q)) := HQ
  have hmi : min (k : Int) ((na.kids.length : Int) - 2) = (m : Int) := by omega
  have hmK : m < na.kids.length := by omega
  clear h hat hk hc hkc hvn hvk ca0 ca2 ca3 cf HJ HA HS HQ hleft hm
  generalize na.kids.length = K at *
  go_enter Try.func52, Try.ntmps52
  go_wp2_with (go_at_call 33; refine HW.mono ?_; rintro e w1 ⟨rfl, q, rfl⟩)
  refine (HS'.out _).mono ?_
  rintro e w2 ⟨rfl, s1, hJP, HD⟩
  obtain ⟨hcell, hlt, HW2⟩ := HA'.out s1 w2 hJP HD
  have HJ2 : Hid (JP s1) := hJP
  have HW3 := HW2 0
  simp only [World.drewN] at HW3
  clear hJP HW HW2
  by_cases h8 : 8 < s1.wid left
  · have HX := HSS.out s1 w2 HJ2.out HD h8
    have HX' : Hid (∀ q, Calls Try.prog 54 #[.pointer (some ⟨t, 0, none⟩), .int .i64 at_, .int .i64 m] (w2.drewN q) fun e w' => e = .returned (.tuple #[]) ∧ Q w') := HX
    clear HX HD
    generalize s1.wid left = Wj at *
    have hd3 : decide ((8 : Int) < (Wj : Int)) = true := by simp; omega
    go_wp2_with (first | (go_at_call 33; refine HW3.mono ?_; rintro e w1 ⟨rfl, q, rfl⟩) | (go_at_call 54; refine (HX'.out _).mono ?_; rintro e w3 ⟨rfl, HQ3⟩))
    go_end0
    exact ⟨rfl, HQ3⟩
  · have HX' : Hid (∀ q, Q (w2.drewN q)) := fun q => HQ'.out s1 w2 q HJ2.out HD (by omega)
    clear HD
    generalize s1.wid left = Wj at *
    have hd3 : decide ((8 : Int) < (Wj : Int)) = false := by simp; omega
    go_wp2_with (go_at_call 33; refine HW3.mono ?_; rintro e w1 ⟨rfl, q, rfl⟩)
    go_end0
    exact ⟨rfl, HX'.out _⟩
end
end Go.Proofs.Ytfnhbjokokjhfaa
