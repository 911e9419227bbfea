/- The two halves of a node's lines, or kids, are stored: the tree then. -/
import Derived.Test.YtfnhbjokokjhfaaSplit0
namespace Go.Proofs.Ytfnhbjokokjhfaa
open Go.ChangeShapes Go.WideShapes Go.ChangeAt Go.RowKit

theorem owns_setCell {w : World} {base size n b off : Nat} {e : TypeId} {v u : Value} {xs : List Value} (h : w.ownsRow base e size v n xs) (hb : b < base) : (w.setCell ⟨b, off, none⟩ u).ownsRow base e size v n xs := by
  refine ⟨h.1, ?_⟩
  rcases h.2 with hn | ⟨g, cap, cur, rfl, hb', hg, rest⟩
  · exact .inl hn
  · exact .inr ⟨g, cap, cur, rfl, hb', by rw [heap_setCell_other (by omega)]; exact hg, rest⟩
theorem owns_form {w : World} {base size n : Nat} {e : TypeId} {v : Value} {xs : List Value} (h : w.ownsRow base e size v n xs) : ∃ a cap, v = .slice a n cap := by
  rcases h.2 with ⟨rfl, rfl⟩ | ⟨b, cap, cur, rfl, _⟩
  · exact ⟨none, 0, rfl⟩
  · exact ⟨_, cap, rfl⟩
section
variable {o : Own} {w : World} {t : Nat} {s : St} {vn vg : Value}

theorem stepL (h : Rep o w t s vn vg) {left r b m cap : Nat} {nl nr : Node} {v1 v2 : Value} {w2 : World} (hvn : vn = .slice (some ⟨b, 0, none⟩) m cap) (hl : s.ns[left]? = some nl) (hr : s.ns[r]? = some nr) (hne : r ≠ left) (hH : HalfS o w (.lines left) nl.lines v1 v2 w2) :
    (∀ j, w2.cell? ⟨b, j, none⟩ = w.cell? ⟨b, j, none⟩ ∧ w2.frozen? ⟨b, j, none⟩ = w.frozen? ⟨b, j, none⟩) ∧ ∃ o2, Rep o2 ((w2.setCell ⟨b, left * 4, none⟩ v1).setCell ⟨b, r * 4, none⟩ v2) t ((s.put left { nl with vl := v1, lines := nl.lines.take (nl.lines.length / 2) }).put r { nr with vl := v2, lines := nl.lines.drop (nl.lines.length / 2) }) vn vg ∧
      Keeps o o2 w ((w2.setCell ⟨b, left * 4, none⟩ v1).setCell ⟨b, r * 4, none⟩ v2) := by
  obtain ⟨hr1, ho2, hk, _⟩ := hH
  have hob : o b = .nodes := h.nodes.2 b (by rw [hvn]; rfl)
  have hbl : b < w.heap.size := h.lt b (by rw [hob]; simp)
  have heb : w2.heap[b]? = w.heap[b]? := hk.block b hbl (by rw [hob]; simp)
  refine ⟨fun j => ⟨by simp [World.cell?, heb], by simp [World.frozen?, heb]⟩, ?_⟩
  have lL : left < s.ns.length := (List.getElem?_eq_some_iff.1 hl).1
  have lR : r < s.ns.length := (List.getElem?_eq_some_iff.1 hr).1
  have x1 := (RepX.open_ h (.lines left)).kb hk (by simp) (by simp) (by simp)
  have x2 := x1.storeL (v := v1) (l := nl.lines.take (nl.lines.length / 2)) (.inl rfl) hl hvn hr1
  have hfree : ∀ k, w.heap.size ≤ k → o k = .free := fun k hk' => h.free_new hk'
  obtain ⟨o2, r2, x3, hold⟩ := adopt x2 (owns_setCell ho2 hbl) hfree (.lines r)
  have x4 := x3.storeL (v := v2) (l := nl.lines.drop (nl.lines.length / 2)) (.inr rfl) (by rw [put_ne _ hne]; exact hr) hvn r2
  refine ⟨o2, x4, ?_⟩
  have k1 : Keeps o o w w2 := hk.keeps (by simp)
  have k2 : Keeps o o w (w2.setCell ⟨b, left * 4, none⟩ v1) := k1.setCell (by rw [hob]; simp)
  have k3 : Keeps o o2 w (w2.setCell ⟨b, left * 4, none⟩ v1) := ⟨k2.os, k2.tape, k2.output, k2.size, k2.block, fun k hk' hf => by rw [hold k hk']; exact hf⟩
  exact k3.setCell (by rw [hold b hbl, hob]; simp)

theorem stepK (h : Rep o w t s vn vg) {left r b m cap : Nat} {nl nr : Node} {v1 v2 : Value} {w2 : World} (hvn : vn = .slice (some ⟨b, 0, none⟩) m cap) (hl : s.ns[left]? = some nl) (hr : s.ns[r]? = some nr) (hne : r ≠ left) (hH : HalfI o w (.kids left) nl.kids v1 v2 w2) :
    (∀ j, w2.cell? ⟨b, j, none⟩ = w.cell? ⟨b, j, none⟩ ∧ w2.frozen? ⟨b, j, none⟩ = w.frozen? ⟨b, j, none⟩) ∧ ∃ o2, Rep o2 ((w2.setCell ⟨b, left * 4 + 1, none⟩ v1).setCell ⟨b, r * 4 + 1, none⟩ v2) t ((s.put left { nl with vk := v1, kids := nl.kids.take (nl.kids.length / 2) }).put r { nr with vk := v2, kids := nl.kids.drop (nl.kids.length / 2) }) vn vg ∧
      Keeps o o2 w ((w2.setCell ⟨b, left * 4 + 1, none⟩ v1).setCell ⟨b, r * 4 + 1, none⟩ v2) := by
  obtain ⟨hr1, ho2, hk, _⟩ := hH
  have hob : o b = .nodes := h.nodes.2 b (by rw [hvn]; rfl)
  have hbl : b < w.heap.size := h.lt b (by rw [hob]; simp)
  have heb : w2.heap[b]? = w.heap[b]? := hk.block b hbl (by rw [hob]; simp)
  refine ⟨fun j => ⟨by simp [World.cell?, heb], by simp [World.frozen?, heb]⟩, ?_⟩
  have lL : left < s.ns.length := (List.getElem?_eq_some_iff.1 hl).1
  have lR : r < s.ns.length := (List.getElem?_eq_some_iff.1 hr).1
  have x1 := (RepX.open_ h (.kids left)).kb hk (by simp) (by simp) (by simp)
  have x2 := x1.storeK (v := v1) (l := nl.kids.take (nl.kids.length / 2)) (.inl rfl) hl hvn hr1
  have hfree : ∀ k, w.heap.size ≤ k → o k = .free := fun k hk' => h.free_new hk'
  obtain ⟨o2, r2, x3, hold⟩ := adopt x2 (owns_setCell ho2 hbl) hfree (.kids r)
  have x4 := x3.storeK (v := v2) (l := nl.kids.drop (nl.kids.length / 2)) (.inr rfl) (by rw [put_ne _ hne]; exact hr) hvn r2
  refine ⟨o2, x4, ?_⟩
  have k1 : Keeps o o w w2 := hk.keeps (by simp)
  have k2 : Keeps o o w (w2.setCell ⟨b, left * 4 + 1, none⟩ v1) := k1.setCell (by rw [hob]; simp)
  have k3 : Keeps o o2 w (w2.setCell ⟨b, left * 4 + 1, none⟩ v1) := ⟨k2.os, k2.tape, k2.output, k2.size, k2.block, fun k hk' hf => by rw [hold k hk']; exact hf⟩
  exact k3.setCell (by rw [hold b hbl, hob]; simp)
end
end Go.Proofs.Ytfnhbjokokjhfaa
