/- A node as plain data; a tree in memory as plain data; the call split. -/
import Derived.Test.YtfnhbjokokjhfaaHalves
namespace Go.Proofs.Ytfnhbjokokjhfaa
open Go.ChangeShapes Go.WideShapes Go.ChangeAt Go.RowKit

section
variable {o : Own} {w : World} {t : Nat} {s : St} {vn vg : Value}

theorem fresh_any (h : Rep o w t s vn vg) (hn : s.ns.length < 1000000000) :
    Calls Try.prog 28 #[.pointer (some ⟨t, 0, none⟩)] w fun e w' => ∃ (r : Nat) (s1 : St), e = .returned (.int .i64 r) ∧ Did o w t s1 w' ∧ ((s.gone = s1.gone ++ [r] ∧ s1.ns = s.ns) ∨ (s.gone = [] ∧ s1.gone = [] ∧ r = s.ns.length ∧ s1.ns = s.ns ++ [nilNode])) ∧ s1.top = s.top := by
  by_cases hg : s.gone = []
  · refine (fresh_new h hg hn).mono ?_
    rintro e w' ⟨rfl, o', vn', h1, h2⟩
    exact ⟨_, _, rfl, ⟨o', _, _, h1, h2⟩, .inr ⟨hg, hg, rfl, rfl⟩, rfl⟩
  · obtain ⟨g0, a, e⟩ : ∃ g0 a, s.gone = g0 ++ [a] := ⟨s.gone.dropLast, s.gone.getLast hg, (List.dropLast_concat_getLast hg).symm⟩
    refine (fresh_old h e).mono ?_
    rintro e' w' ⟨rfl, vg', h1, h2⟩
    exact ⟨_, _, rfl, ⟨o, _, _, h1, h2⟩, .inl ⟨e, rfl⟩, rfl⟩

/-- The field 'lines' of a node is stored, whose row has turned (or is new). -/
theorem RepX.storeL {x : Tag} {i b m cap : Nat} {n : Node} {v : Value} {l : List ByteArray} (h : RepX x o w t s vn vg) (hx : x = .lines i ∨ x = .free) (hi : s.ns[i]? = some n) (hvn : vn = .slice (some ⟨b, 0, none⟩) m cap) (hl : Row o w (.lines i) 9 1 v l.length (strs l)) :
    Rep o (w.setCell ⟨b, i * 4, none⟩ v) t (s.put i { n with vl := v, lines := l }) vn vg :=
  RepX.store h (n' := { n with vl := v, lines := l }) (j := 0) (by rcases hx with e | e; exact .inl e; exact .inr (.inr e)) hi hvn (by omega) rfl hl (h.kids i n hi (by rcases hx with e | e <;> rw [e] <;> simp))
theorem RepX.storeK {x : Tag} {i b m cap : Nat} {n : Node} {v : Value} {l : List Nat} (h : RepX x o w t s vn vg) (hx : x = .kids i ∨ x = .free) (hi : s.ns[i]? = some n) (hvn : vn = .slice (some ⟨b, 0, none⟩) m cap) (hl : Row o w (.kids i) 3 1 v l.length (nums l)) :
    Rep o (w.setCell ⟨b, i * 4 + 1, none⟩ v) t (s.put i { n with vk := v, kids := l }) vn vg :=
  RepX.store h (n' := { n with vk := v, kids := l }) (j := 1) (by rcases hx with e | e; exact .inr (.inl e); exact .inr (.inr e)) hi hvn (by omega) rfl (h.lines i n hi (by rcases hx with e | e <;> rw [e] <;> simp)) hl
/-- A row that has no owner yet gets one. -/
theorem adopt {x' : Tag} {base size n : Nat} {e : TypeId} {v : Value} {xs : List Value} (h : RepX x' o w t s vn vg) (hr : w.ownsRow base e size v n xs) (hf : ∀ k, base ≤ k → o k = .free) (g : Tag) :
    ∃ o', Row o' w g e size v n xs ∧ RepX x' o' w t s vn vg ∧ ∀ k, k < base → o' k = o k := by
  rcases hr.2 with ⟨rfl, rfl⟩ | ⟨b, cap, cur, rfl, hb, hg, rest⟩
  · refine ⟨o, ⟨⟨hr.1, .inl ⟨rfl, rfl⟩⟩, fun k hk => ?_⟩, h, fun _ _ => rfl⟩; simp [Value.ownBlock] at hk
  · refine ⟨give o b g, ⟨⟨hr.1, .inr ⟨b, cap, cur, rfl, Nat.zero_le _, hg, rest⟩⟩, fun k hk => ?_⟩, h.give (hf b hb) (Array.getElem?_eq_some_iff.1 hg).1 g, fun k hk => ?_⟩
    · simp [Value.ownBlock] at hk; simp [give, hk]
    · simp [give]; omega
end
end Go.Proofs.Ytfnhbjokokjhfaa
