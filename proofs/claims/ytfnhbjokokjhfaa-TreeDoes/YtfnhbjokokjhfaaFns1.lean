/- The tree's small calls: Len, Bytes, last, width, kid, fresh, drop, weigh: what they return, and what the tree is then. -/
import Derived.Test.YtfnhbjokokjhfaaUpd
import Derived.BigRegion
namespace Go.Proofs.Ytfnhbjokokjhfaa
open Go.ChangeShapes Go.WideShapes Go.ChangeAt Go.RowKit

section
variable {o : Own} {w : World} {t : Nat} {s : St} {vn vg : Value}
theorem len_any (h : Rep o w t s vn vg) {n : Node} (hn : s.ns[s.top]? = some n) :
    Calls Try.prog 18 #[.pointer (some ⟨t, 0, none⟩)] w fun e w' => e = .returned (.int .i64 n.count) ∧ ∃ q, w' = w.drewN q := by
  have htop : s.top < s.ns.length := (List.getElem?_eq_some_iff.1 hn).1
  obtain ⟨b, cap, rfl, ho, h1, h2, hc⟩ := h.nodeCells (by omega)
  obtain ⟨⟨c0, c1, c2, c3⟩, hf⟩ := hc _ _ hn
  have a0 := h.at0; have a2 := h.at2
  unfold maxLen at h2
  clear hc hn h
  go_enter Try.func18, Try.ntmps18
  go_wp2
  go_quiet (fail)
  go_wp2
  go_ret
  exact ⟨rfl, _, rfl⟩
theorem bytes_any (h : Rep o w t s vn vg) {n : Node} (hn : s.ns[s.top]? = some n) :
    Calls Try.prog 14 #[.pointer (some ⟨t, 0, none⟩)] w fun e w' => e = .returned (.int .i64 n.bytes) ∧ ∃ q, w' = w.drewN q := by
  have htop : s.top < s.ns.length := (List.getElem?_eq_some_iff.1 hn).1
  obtain ⟨b, cap, rfl, ho, h1, h2, hc⟩ := h.nodeCells (by omega)
  obtain ⟨⟨c0, c1, c2, c3⟩, hf⟩ := hc _ _ hn
  have a0 := h.at0; have a2 := h.at2
  unfold maxLen at h2
  clear hc hn h
  go_enter Try.func14, Try.ntmps14
  go_wp2
  go_quiet (fail)
  go_wp2
  go_ret
  exact ⟨rfl, _, rfl⟩
theorem last_any (h : Rep o w t s vn vg) {at_ : Nat} {n : Node} (hn : s.ns[at_]? = some n) :
    Calls Try.prog 38 #[.pointer (some ⟨t, 0, none⟩), .int .i64 at_] w fun e w' => e = .returned (.bool (decide (n.kids = []))) ∧ w' = w := by
  have htop : at_ < s.ns.length := (List.getElem?_eq_some_iff.1 hn).1
  obtain ⟨b, cap, rfl, ho, h1, h2, hc⟩ := h.nodeCells (by omega)
  obtain ⟨⟨c0, c1, c2, c3⟩, hf⟩ := hc _ _ hn
  obtain ⟨ka, kc, hk, k1, k2⟩ := (h.kids _ _ hn (by simp)).form
  rw [hk] at c1
  have a0 := h.at0; have a2 := h.at2
  unfold maxLen at h2
  have hd : decide (n.kids = []) = ((n.kids.length : Int) == 0) := by cases n.kids <;> simp; omega
  rw [hd]
  generalize n.kids.length = K at *
  clear hc hn h hk hd
  go_enter Try.func38, Try.ntmps38
  go_wp2
  go_ret
  exact ⟨rfl, rfl⟩
theorem width_any (h : Rep o w t s vn vg) {at_ : Nat} {n : Node} (hn : s.ns[at_]? = some n) (hw : n.lines.length < 1000000 ∧ n.kids.length < 1000000) :
    Calls Try.prog 33 #[.pointer (some ⟨t, 0, none⟩), .int .i64 at_] w fun e w' => e = .returned (.int .i64 ((n.lines.length + n.kids.length : Nat) : Int)) ∧ ∃ q, w' = w.drewN q := by
  have htop : at_ < s.ns.length := (List.getElem?_eq_some_iff.1 hn).1
  obtain ⟨b, cap, rfl, ho, h1, h2, hc⟩ := h.nodeCells (by omega)
  obtain ⟨⟨c0, c1, c2, c3⟩, hf⟩ := hc _ _ hn
  obtain ⟨ka, kc, hk, k1, k2⟩ := (h.kids _ _ hn (by simp)).form
  obtain ⟨la, lc, hl, l1, l2⟩ := (h.lines _ _ hn (by simp)).form
  rw [hk] at c1
  rw [hl] at c0
  have a0 := h.at0; have a2 := h.at2
  unfold maxLen at h2
  generalize n.kids.length = K at *
  generalize n.lines.length = L at *
  clear hc hn h hk hl
  go_enter Try.func33, Try.ntmps33
  go_wp2
  go_quiet (fail)
  go_wp2
  go_ret
  exact ⟨by simp, _, rfl⟩
end
end Go.Proofs.Ytfnhbjokokjhfaa
