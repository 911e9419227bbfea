/- Texts that the proof of the law stands on: TzHalves, TzSplit0, TzSteps, TzHand, TzSplit1, TzJoin, TzJoinI. -/
import Derived.Test.YtaefeakmlgjonaaGreatPartF
import Derived.Deep.RegionWith
import Derived.Deep.Cut
import Derived.Deep.RegionHeld3
import Derived.BigCall
/- The tree's call halves, at strings and at ints. -/
namespace Go.Proofs.YtaefeakmlgjonaaGreat.Tz
set_option maxRecDepth 100000
open Go.ChangeShapes Go.WideShapes Go.ChangeAt Go.RowKit

theorem KB.below {g : Tag} {o : Own} {w w' : World} (hb : Below w.heap.size w w') (hlt : ∀ k, o k ≠ .free → k < w.heap.size) : KB g o o w w' := by
  refine ⟨hb.os, hb.tape, hb.output, hb.size, fun k hk _ => hb.block k hk, fun _ _ _ => rfl, fun _ => .inl rfl, fun k hk => ?_, fun k _ h => .inl h, fun k hk => Nat.lt_of_lt_of_le (hlt k hk) hb.size⟩
  by_cases h : o k = .free
  · exact .inr h
  · exact absurd (hlt k h) (by omega)
theorem Row.below {g : Tag} {o : Own} {w w' : World} {e : TypeId} {size n : Nat} {v : Value} {xs : List Value} (h : Row o w g e size v n xs) (hb : Below w.heap.size w w') : Row o w' g e size v n xs := h.same fun k hk => hb.block k (h.lt hk)
theorem owns_kb {g : Tag} {o o' : Own} {w w' : World} {base size n : Nat} {e : TypeId} {v : Value} {xs : List Value} (h : w.ownsRow base e size v n xs) (k : KB g o o' w w') (hf : ∀ b, base ≤ b → o b ≠ g) : w'.ownsRow base e size v n xs := by
  refine ⟨h.1, ?_⟩
  rcases h.2 with hn | ⟨b, cap, cur, rfl, hb, hg, rest⟩
  · exact .inl hn
  · exact .inr ⟨b, cap, cur, rfl, hb, (k.block b (Array.getElem?_eq_some_iff.1 hg).1 (hf b hb)).trans hg, rest⟩

def HalfS (o : Own) (w : World) (g : Tag) (l : List ByteArray) (v1 v2 : Value) (w' : World) : Prop :=
  Row o w' g 9 1 v1 (l.take (l.length / 2)).length (strs (l.take (l.length / 2))) ∧ w'.ownsRow w.heap.size 9 1 v2 (l.drop (l.length / 2)).length (strs (l.drop (l.length / 2))) ∧ KB g o o w w' ∧ (l = [] → v1 = .slice none 0 0 ∧ v2 = .slice none 0 0)
theorem halvesS_any {o : Own} {w : World} {g : Tag} {v : Value} {l : List ByteArray} (hr : Row o w g 9 1 v l.length (strs l)) (hlt : ∀ k, o k ≠ .free → k < w.heap.size) (hg : g ≠ .free) (hn : l.length < 1000000000) (hp : l = [] → v = .slice none 0 0) :
    Calls Tryz.prog 217 #[v] w fun e w' => ∃ v1 v2, e = .returned (.tuple #[v1, v2]) ∧ HalfS o w g l v1 v2 w' := by
  by_cases h0 : l.length = 0
  · obtain rfl : l = [] := List.eq_nil_of_length_eq_zero h0
    obtain rfl := hp rfl
    have HF : Hid (HalfS o w g [] (.slice none 0 0) (.slice none 0 0) w) := ⟨hr, World.ownsRow_nil _ _ _ _, KB.same rfl rfl rfl rfl hlt, fun _ => ⟨rfl, rfl⟩⟩
    clear hr hp hlt h0
    go_enter Tryz.func217, Tryz.ntmps217
    go_wp2_with (first | (go_at_call 77; refine (cloS_nil _).mono ?_; rintro e w1 ⟨rfl, rfl⟩) | go_in)
    go_ret2
    exact ⟨_, _, rfl, HF.out⟩
  · obtain ⟨b, cap, cur, rfl, hob, hb, hnc, hcm, hcs, htk⟩ := hr.shape (by omega)
    simp only [Nat.mul_one] at hcs htk
    have HC : Hid (∀ j u, (strs (l.drop (l.length / 2)))[j]? = some u → w.cell? ⟨b, l.length / 2 + j, none⟩ = some u) := by
      intro j u hj
      rw [cell_at hb]
      have e : strs (l.drop (l.length / 2)) = (strs l).drop (l.length / 2) := by simp [strs, List.map_drop]
      rw [e, List.getElem?_drop] at hj
      have := take_getElem? htk hj
      simpa using this
    have HD : Hid (∀ w1, Below w.heap.size w w1 → Calls Tryz.prog 177 #[.slice (some ⟨b, 0, none⟩) l.length cap, .int .i64 ((l.length / 2 : Nat) : Int), .int .i64 (l.length : Int)] w1 fun e w' => ∃ v', e = .returned v' ∧ v'.ownBlock = some b ∧ Row o w' g 9 1 v' (l.length - (l.length - l.length / 2)) (strs (l.take (l.length / 2) ++ l.drop l.length)) ∧ KB g o o w1 w') := fun w1 hb1 =>
      delS_any (hr.below hb1) (fun k hk => Nat.lt_of_lt_of_le (hlt k hk) hb1.size) hg (by omega) (by omega)
    have HF : Hid (∀ w1 w2 v1 v2, Below w.heap.size w w1 → w1.ownsRow w.heap.size 9 1 v2 (l.drop (l.length / 2)).length (strs (l.drop (l.length / 2))) → Row o w2 g 9 1 v1 (l.length - (l.length - l.length / 2)) (strs (l.take (l.length / 2) ++ l.drop l.length)) → KB g o o w1 w2 → HalfS o w g l v1 v2 w2) := by
      intro w1 w2 v1 v2 hb1 ho2 hr1 hk
      have k0 : KB g o o w w1 := KB.below hb1 hlt
      refine ⟨?_, owns_kb ho2 hk (fun k hk' e => hg (by rw [← e]; by_cases h : o k = .free; exact h; exact absurd (hlt k h) (by omega))), k0.trans hg hk, fun e => absurd (by rw [e]; rfl) h0⟩
      have e1 : l.take (l.length / 2) ++ l.drop l.length = l.take (l.length / 2) := by rw [List.drop_length, List.append_nil]
      have e2 : l.length - (l.length - l.length / 2) = (l.take (l.length / 2)).length := by rw [List.length_take]; omega
      rw [e1, e2] at hr1; exact hr1
    have hdl : Hid ((l.drop (l.length / 2)).length = l.length - l.length / 2) := List.length_drop
    unfold maxLen at hcm
    have h1 : ¬ (cap = l.length / 2) := by omega
    have h2 : ((l.length : Int) / 2) = ((l.length / 2 : Nat) : Int) := by omega
    have h3 : l.length / 2 < l.length := by omega
    clear hr hlt htk hcs hb hob hp
    generalize hH : l.length / 2 = M at *
    generalize hL : l.length = L at *
    clear hH hL
    go_enter Tryz.func217, Tryz.ntmps217
    go_wp2_with (first
      | (go_at_call 77; refine (cloS_any (l := l.drop M) hdl.out (by omega) HC.out).mono ?_; rintro e w1 ⟨v2, rfl, ho2, hb1⟩)
      | (go_at_call 177; refine (HD.out _ hb1).mono ?_; rintro e w2 ⟨v1, rfl, hv1, hr1, hk1⟩))
    go_ret2
    exact ⟨_, _, rfl, HF.out _ _ _ _ hb1 (by rw [hdl.out]; exact ho2) hr1 hk1⟩

def HalfI (o : Own) (w : World) (g : Tag) (l : List Nat) (v1 v2 : Value) (w' : World) : Prop :=
  Row o w' g 3 1 v1 (l.take (l.length / 2)).length (nums (l.take (l.length / 2))) ∧ w'.ownsRow w.heap.size 3 1 v2 (l.drop (l.length / 2)).length (nums (l.drop (l.length / 2))) ∧ KB g o o w w' ∧ (l = [] → v1 = .slice none 0 0 ∧ v2 = .slice none 0 0)
theorem halvesI_any {o : Own} {w : World} {g : Tag} {v : Value} {l : List Nat} (hr : Row o w g 3 1 v l.length (nums l)) (hlt : ∀ k, o k ≠ .free → k < w.heap.size) (hg : g ≠ .free) (hn : l.length < 1000000000) (hp : l = [] → v = .slice none 0 0) :
    Calls Tryz.prog 218 #[v] w fun e w' => ∃ v1 v2, e = .returned (.tuple #[v1, v2]) ∧ HalfI o w g l v1 v2 w' := by
  by_cases h0 : l.length = 0
  · obtain rfl : l = [] := List.eq_nil_of_length_eq_zero h0
    obtain rfl := hp rfl
    have HF : Hid (HalfI o w g [] (.slice none 0 0) (.slice none 0 0) w) := ⟨hr, World.ownsRow_nil _ _ _ _, KB.same rfl rfl rfl rfl hlt, fun _ => ⟨rfl, rfl⟩⟩
    clear hr hp hlt h0
    go_enter Tryz.func218, Tryz.ntmps218
    go_wp2_with (first | (go_at_call 223; refine (cloI_nil _).mono ?_; rintro e w1 ⟨rfl, rfl⟩) | go_in)
    go_ret2
    exact ⟨_, _, rfl, HF.out⟩
  · obtain ⟨b, cap, cur, rfl, hob, hb, hnc, hcm, hcs, htk⟩ := hr.shape (by omega)
    simp only [Nat.mul_one] at hcs htk
    have HC : Hid (∀ j u, (nums (l.drop (l.length / 2)))[j]? = some u → w.cell? ⟨b, l.length / 2 + j, none⟩ = some u) := by
      intro j u hj
      rw [cell_at hb]
      have e : nums (l.drop (l.length / 2)) = (nums l).drop (l.length / 2) := by simp [nums, List.map_drop]
      rw [e, List.getElem?_drop] at hj
      have := take_getElem? htk hj
      simpa using this
    have HD : Hid (∀ w1, Below w.heap.size w w1 → Calls Tryz.prog 222 #[.slice (some ⟨b, 0, none⟩) l.length cap, .int .i64 ((l.length / 2 : Nat) : Int), .int .i64 (l.length : Int)] w1 fun e w' => ∃ v', e = .returned v' ∧ v'.ownBlock = some b ∧ Row o w' g 3 1 v' (l.length - (l.length - l.length / 2)) (nums (l.take (l.length / 2) ++ l.drop l.length)) ∧ KB g o o w1 w') := fun w1 hb1 =>
      delI_any (hr.below hb1) (fun k hk => Nat.lt_of_lt_of_le (hlt k hk) hb1.size) hg (by omega) (by omega)
    have HF : Hid (∀ w1 w2 v1 v2, Below w.heap.size w w1 → w1.ownsRow w.heap.size 3 1 v2 (l.drop (l.length / 2)).length (nums (l.drop (l.length / 2))) → Row o w2 g 3 1 v1 (l.length - (l.length - l.length / 2)) (nums (l.take (l.length / 2) ++ l.drop l.length)) → KB g o o w1 w2 → HalfI o w g l v1 v2 w2) := by
      intro w1 w2 v1 v2 hb1 ho2 hr1 hk
      have k0 : KB g o o w w1 := KB.below hb1 hlt
      refine ⟨?_, owns_kb ho2 hk (fun k hk' e => hg (by rw [← e]; by_cases h : o k = .free; exact h; exact absurd (hlt k h) (by omega))), k0.trans hg hk, fun e => absurd (by rw [e]; rfl) h0⟩
      have e1 : l.take (l.length / 2) ++ l.drop l.length = l.take (l.length / 2) := by rw [List.drop_length, List.append_nil]
      have e2 : l.length - (l.length - l.length / 2) = (l.take (l.length / 2)).length := by rw [List.length_take]; omega
      rw [e1, e2] at hr1; exact hr1
    have hdl : Hid ((l.drop (l.length / 2)).length = l.length - l.length / 2) := List.length_drop
    unfold maxLen at hcm
    have h1 : ¬ (cap = l.length / 2) := by omega
    have h2 : ((l.length : Int) / 2) = ((l.length / 2 : Nat) : Int) := by omega
    have h3 : l.length / 2 < l.length := by omega
    clear hr hlt htk hcs hb hob hp
    generalize hH : l.length / 2 = M at *
    generalize hL : l.length = L at *
    clear hH hL
    go_enter Tryz.func218, Tryz.ntmps218
    go_wp2_with (first
      | (go_at_call 223; refine (cloI_any (l := l.drop M) hdl.out (by omega) HC.out).mono ?_; rintro e w1 ⟨v2, rfl, ho2, hb1⟩)
      | (go_at_call 222; refine (HD.out _ hb1).mono ?_; rintro e w2 ⟨v1, rfl, hv1, hr1, hk1⟩))
    go_ret2
    exact ⟨_, _, rfl, HF.out _ _ _ _ hb1 (by rw [hdl.out]; exact ho2) hr1 hk1⟩

end Go.Proofs.YtaefeakmlgjonaaGreat.Tz
/- A node as plain data; a tree in memory as plain data; the call split. -/
namespace Go.Proofs.YtaefeakmlgjonaaGreat.Tz
set_option maxRecDepth 100000
open Go.ChangeShapes Go.WideShapes Go.ChangeAt Go.RowKit

section
variable {o : Own} {w : World} {t : Nat} {s : St} {vn vg : Value}

theorem fresh_any (h : Rep o w t s vn vg) (hn : s.ns.length < 1000000000) :
    Calls Tryz.prog 126 #[.pointer (some ⟨t, 0, none⟩)] w fun e w' => ∃ (r : Nat) (s1 : St), e = .returned (.int .i64 r) ∧ Did o w t s1 w' ∧ ((s.gone = s1.gone ++ [r] ∧ s1.ns = s.ns) ∨ (s.gone = [] ∧ s1.gone = [] ∧ r = s.ns.length ∧ s1.ns = s.ns ++ [nilNode])) ∧ s1.top = s.top := by
  by_cases hg : s.gone = []
  · refine (fresh_new h hg hn).mono ?_
    rintro e w' ⟨rfl, o', vn', h1, h2⟩
    exact ⟨_, _, rfl, ⟨o', _, _, h1, h2⟩, .inr ⟨hg, hg, rfl, rfl⟩, rfl⟩
  · obtain ⟨g0, a, e⟩ : ∃ g0 a, s.gone = g0 ++ [a] := ⟨s.gone.dropLast, s.gone.getLast hg, (List.dropLast_concat_getLast hg).symm⟩
    refine (fresh_old h e).mono ?_
    rintro e' w' ⟨rfl, vg', h1, h2⟩
    exact ⟨_, _, rfl, ⟨o, _, _, h1, h2⟩, .inl ⟨e, rfl⟩, rfl⟩

/-- The field 'lines' of a node is stored, whose row has turned (or is new). -/
theorem RepX.storeL {x : Tag} {i b m cap : Nat} {n : Node} {v : Value} {l : List ByteArray} (h : RepX x o w t s vn vg) (hx : x = .lines i ∨ x = .free) (hi : s.ns[i]? = some n) (hvn : vn = .slice (some ⟨b, 0, none⟩) m cap) (hl : Row o w (.lines i) 9 1 v l.length (strs l)) :
    Rep o (w.setCell ⟨b, i * 4, none⟩ v) t (s.put i { n with vl := v, lines := l }) vn vg :=
  RepX.store h (n' := { n with vl := v, lines := l }) (j := 0) (by rcases hx with e | e; exact .inl e; exact .inr (.inr e)) hi hvn (by omega) rfl hl (h.kids i n hi (by rcases hx with e | e <;> rw [e] <;> simp))
theorem RepX.storeK {x : Tag} {i b m cap : Nat} {n : Node} {v : Value} {l : List Nat} (h : RepX x o w t s vn vg) (hx : x = .kids i ∨ x = .free) (hi : s.ns[i]? = some n) (hvn : vn = .slice (some ⟨b, 0, none⟩) m cap) (hl : Row o w (.kids i) 3 1 v l.length (nums l)) :
    Rep o (w.setCell ⟨b, i * 4 + 1, none⟩ v) t (s.put i { n with vk := v, kids := l }) vn vg :=
  RepX.store h (n' := { n with vk := v, kids := l }) (j := 1) (by rcases hx with e | e; exact .inr (.inl e); exact .inr (.inr e)) hi hvn (by omega) rfl (h.lines i n hi (by rcases hx with e | e <;> rw [e] <;> simp)) hl
/-- A row that has no owner yet gets one. -/
theorem adopt {x' : Tag} {base size n : Nat} {e : TypeId} {v : Value} {xs : List Value} (h : RepX x' o w t s vn vg) (hr : w.ownsRow base e size v n xs) (hf : ∀ k, base ≤ k → o k = .free) (g : Tag) :
    ∃ o', Row o' w g e size v n xs ∧ RepX x' o' w t s vn vg ∧ ∀ k, k < base → o' k = o k := by
  rcases hr.2 with ⟨rfl, rfl⟩ | ⟨b, cap, cur, rfl, hb, hg, rest⟩
  · refine ⟨o, ⟨⟨hr.1, .inl ⟨rfl, rfl⟩⟩, fun k hk => ?_⟩, h, fun _ _ => rfl⟩; simp [Value.ownBlock] at hk
  · refine ⟨give o b g, ⟨⟨hr.1, .inr ⟨b, cap, cur, rfl, Nat.zero_le _, hg, rest⟩⟩, fun k hk => ?_⟩, h.give (hf b hb) (Array.getElem?_eq_some_iff.1 hg).1 g, fun k hk => ?_⟩
    · simp [Value.ownBlock] at hk; simp [give, hk]
    · simp [give]; omega
end
end Go.Proofs.YtaefeakmlgjonaaGreat.Tz
/- The two halves of a node's lines, or kids, are stored: the tree then. -/
namespace Go.Proofs.YtaefeakmlgjonaaGreat.Tz
set_option maxRecDepth 100000
open Go.ChangeShapes Go.WideShapes Go.ChangeAt Go.RowKit

theorem owns_setCell {w : World} {base size n b off : Nat} {e : TypeId} {v u : Value} {xs : List Value} (h : w.ownsRow base e size v n xs) (hb : b < base) : (w.setCell ⟨b, off, none⟩ u).ownsRow base e size v n xs := by
  refine ⟨h.1, ?_⟩
  rcases h.2 with hn | ⟨g, cap, cur, rfl, hb', hg, rest⟩
  · exact .inl hn
  · exact .inr ⟨g, cap, cur, rfl, hb', by rw [heap_setCell_other (by omega)]; exact hg, rest⟩
theorem owns_form {w : World} {base size n : Nat} {e : TypeId} {v : Value} {xs : List Value} (h : w.ownsRow base e size v n xs) : ∃ a cap, v = .slice a n cap := by
  rcases h.2 with ⟨rfl, rfl⟩ | ⟨b, cap, cur, rfl, _⟩
  · exact ⟨none, 0, rfl⟩
  · exact ⟨_, cap, rfl⟩
section
variable {o : Own} {w : World} {t : Nat} {s : St} {vn vg : Value}

theorem stepL (h : Rep o w t s vn vg) {left r b m cap : Nat} {nl nr : Node} {v1 v2 : Value} {w2 : World} (hvn : vn = .slice (some ⟨b, 0, none⟩) m cap) (hl : s.ns[left]? = some nl) (hr : s.ns[r]? = some nr) (hne : r ≠ left) (hH : HalfS o w (.lines left) nl.lines v1 v2 w2) :
    (∀ j, w2.cell? ⟨b, j, none⟩ = w.cell? ⟨b, j, none⟩ ∧ w2.frozen? ⟨b, j, none⟩ = w.frozen? ⟨b, j, none⟩) ∧ ∃ o2, Rep o2 ((w2.setCell ⟨b, left * 4, none⟩ v1).setCell ⟨b, r * 4, none⟩ v2) t ((s.put left { nl with vl := v1, lines := nl.lines.take (nl.lines.length / 2) }).put r { nr with vl := v2, lines := nl.lines.drop (nl.lines.length / 2) }) vn vg ∧
      Keeps o o2 w ((w2.setCell ⟨b, left * 4, none⟩ v1).setCell ⟨b, r * 4, none⟩ v2) := by
  obtain ⟨hr1, ho2, hk, _⟩ := hH
  have hob : o b = .nodes := h.nodes.2 b (by rw [hvn]; rfl)
  have hbl : b < w.heap.size := h.lt b (by rw [hob]; simp)
  have heb : w2.heap[b]? = w.heap[b]? := hk.block b hbl (by rw [hob]; simp)
  refine ⟨fun j => ⟨by simp [World.cell?, heb], by simp [World.frozen?, heb]⟩, ?_⟩
  have lL : left < s.ns.length := (List.getElem?_eq_some_iff.1 hl).1
  have lR : r < s.ns.length := (List.getElem?_eq_some_iff.1 hr).1
  have x1 := (RepX.open_ h (.lines left)).kb hk (by simp) (by simp) (by simp)
  have x2 := x1.storeL (v := v1) (l := nl.lines.take (nl.lines.length / 2)) (.inl rfl) hl hvn hr1
  have hfree : ∀ k, w.heap.size ≤ k → o k = .free := fun k hk' => h.free_new hk'
  obtain ⟨o2, r2, x3, hold⟩ := adopt x2 (owns_setCell ho2 hbl) hfree (.lines r)
  have x4 := x3.storeL (v := v2) (l := nl.lines.drop (nl.lines.length / 2)) (.inr rfl) (by rw [put_ne _ hne]; exact hr) hvn r2
  refine ⟨o2, x4, ?_⟩
  have k1 : Keeps o o w w2 := hk.keeps (by simp)
  have k2 : Keeps o o w (w2.setCell ⟨b, left * 4, none⟩ v1) := k1.setCell (by rw [hob]; simp)
  have k3 : Keeps o o2 w (w2.setCell ⟨b, left * 4, none⟩ v1) := ⟨k2.os, k2.tape, k2.output, k2.size, k2.block, fun k hk' hf => by rw [hold k hk']; exact hf⟩
  exact k3.setCell (by rw [hold b hbl, hob]; simp)

theorem stepK (h : Rep o w t s vn vg) {left r b m cap : Nat} {nl nr : Node} {v1 v2 : Value} {w2 : World} (hvn : vn = .slice (some ⟨b, 0, none⟩) m cap) (hl : s.ns[left]? = some nl) (hr : s.ns[r]? = some nr) (hne : r ≠ left) (hH : HalfI o w (.kids left) nl.kids v1 v2 w2) :
    (∀ j, w2.cell? ⟨b, j, none⟩ = w.cell? ⟨b, j, none⟩ ∧ w2.frozen? ⟨b, j, none⟩ = w.frozen? ⟨b, j, none⟩) ∧ ∃ o2, Rep o2 ((w2.setCell ⟨b, left * 4 + 1, none⟩ v1).setCell ⟨b, r * 4 + 1, none⟩ v2) t ((s.put left { nl with vk := v1, kids := nl.kids.take (nl.kids.length / 2) }).put r { nr with vk := v2, kids := nl.kids.drop (nl.kids.length / 2) }) vn vg ∧
      Keeps o o2 w ((w2.setCell ⟨b, left * 4 + 1, none⟩ v1).setCell ⟨b, r * 4 + 1, none⟩ v2) := by
  obtain ⟨hr1, ho2, hk, _⟩ := hH
  have hob : o b = .nodes := h.nodes.2 b (by rw [hvn]; rfl)
  have hbl : b < w.heap.size := h.lt b (by rw [hob]; simp)
  have heb : w2.heap[b]? = w.heap[b]? := hk.block b hbl (by rw [hob]; simp)
  refine ⟨fun j => ⟨by simp [World.cell?, heb], by simp [World.frozen?, heb]⟩, ?_⟩
  have lL : left < s.ns.length := (List.getElem?_eq_some_iff.1 hl).1
  have lR : r < s.ns.length := (List.getElem?_eq_some_iff.1 hr).1
  have x1 := (RepX.open_ h (.kids left)).kb hk (by simp) (by simp) (by simp)
  have x2 := x1.storeK (v := v1) (l := nl.kids.take (nl.kids.length / 2)) (.inl rfl) hl hvn hr1
  have hfree : ∀ k, w.heap.size ≤ k → o k = .free := fun k hk' => h.free_new hk'
  obtain ⟨o2, r2, x3, hold⟩ := adopt x2 (owns_setCell ho2 hbl) hfree (.kids r)
  have x4 := x3.storeK (v := v2) (l := nl.kids.drop (nl.kids.length / 2)) (.inr rfl) (by rw [put_ne _ hne]; exact hr) hvn r2
  refine ⟨o2, x4, ?_⟩
  have k1 : Keeps o o w w2 := hk.keeps (by simp)
  have k2 : Keeps o o w (w2.setCell ⟨b, left * 4 + 1, none⟩ v1) := k1.setCell (by rw [hob]; simp)
  have k3 : Keeps o o2 w (w2.setCell ⟨b, left * 4 + 1, none⟩ v1) := ⟨k2.os, k2.tape, k2.output, k2.size, k2.block, fun k hk' hf => by rw [hold k hk']; exact hf⟩
  exact k3.setCell (by rw [hold b hbl, hob]; simp)
end
end Go.Proofs.YtaefeakmlgjonaaGreat.Tz
/- Steps of a region that draws its order, walked by hand. -/
namespace Go.Proofs.YtaefeakmlgjonaaGreat.Tz
set_option maxRecDepth 100000
open Go.ChangeShapes Go.WideShapes Go.ChangeAt Go.RowKit

def Tk (t : Nat) (v : Value) (w' : World) : Prop := w'.cell? ⟨t, 0, none⟩ = some v
theorem takeAt {P : Program} {ops : Array Oper} {Q : Exit → Act → World → Prop} {md : Region.Mode} {S : World → Prop} (i : Nat) (dst : Option Tmp) (v : Value) {oi : Oper} {fuel : Nat} {listed : Array Bool} {a : Act} {w : World} (hi : ops[i]? = some oi) (hd : oi.dst = dst)
    (hs : Region.noSelect ops = true) (hf : Region.free md ops listed i = true) (hr : (Region.ready md ops listed).contains i = true)
    (hQ : ∀ c a w, Q (.panic c) (a.put dst v) w → Q (.panic c) a w) (hy : YieldsIf P ops S oi v a) (hS : S w)
    (h : wpAnyH P md ops Q S fuel (listed.setIfInBounds i true) (a.put dst v) w) : wpAnyH P md ops Q S (fuel + 1) listed a w := by
  subst hd
  exact wpAnyH_take hi hs hf hr hQ hy hS h
theorem run_callGo {P : Program} {f : FuncId} {fn : Func} (args : Array Value) (w : World) (hf : P.funcs[f]? = some fn) (hn : (fn.name == "runtime.NumGoroutine") = false) (hb : fn.body.isNone = false) : (callFunc f args).run P w = .ok (.enter f args) w := by
  have h1 : ¬ fn.name = "runtime.NumGoroutine" := by simpa using hn
  have h2 : ¬ fn.body = none := by intro e; rw [e] at hb; cases hb
  simp [callFunc, hf, h1, h2]
/-- The call of a Go function comes up alone. -/
theorem callAt {P : Program} {ops : Array Oper} {Q : Exit → Act → World → Prop} {md : Region.Mode} {S : World → Prop} (i : Nat) (d : Tmp) (f : FuncId) {o : Oper} {fn : Func} {fuel : Nat} {listed : Array Bool} {a : Act} {w : World} {xs : Array Operand} {ats : Array TypeId} {vals : Array Value}
    (hr : Region.ready md ops listed = [i]) (ho : ops[i]? = some o) (hop : o.op = .call { callee := .value (.func f), args := xs, argTypes := ats }) (hd : o.dst = some d) (hg : o.guard = none) (hv : xs.map a.eval = vals)
    (hf : P.funcs[f]? = some fn) (hn : (fn.name == "runtime.NumGoroutine") = false) (hb : fn.body.isNone = false)
    (h : Calls P f vals w fun e w' => ∃ v, e = .returned v ∧ S w' ∧ (S w' → wpAnyH P md ops Q S fuel (listed.setIfInBounds i true) (a.put (some d) v) w')) : wpAnyH P md ops Q S (fuel + 1) listed a w := by
  refine wpAnyH_ready hr (by simp) ?_
  refine AllReadyH.cons ho (fun K hK => ?_) AllReadyH.nil
  have hw : Region.wanted o (yielded ops a.tmps) = true := by simp [Region.wanted, hg]
  rw [if_pos hw]
  obtain ⟨dst, op, type, pos, after, guard⟩ := o
  simp only at hop hd hg
  subst hop; subst hd; subst hg
  unfold Oper.wp
  rw [execOp_call_go, show (#[] ++ xs.map a.eval ++ #[]) = vals by simp [hv], run_callGo vals w hf hn hb]
  simp only [Oper.upon]
  refine Calls.mono h ?_
  rintro e w' ⟨v, rfl, hS, hW⟩
  exact hK.out _ _ hS hW
end Go.Proofs.YtaefeakmlgjonaaGreat.Tz
/- The call split. -/
namespace Go.Proofs.YtaefeakmlgjonaaGreat.Tz
set_option maxRecDepth 100000
open Go.ChangeShapes Go.WideShapes Go.ChangeAt Go.RowKit

theorem sum_drop (l : List Nat) (f : Nat → Nat) (j : Nat) : ((l.drop j).map f).sum ≤ (l.map f).sum := by
  induction l generalizing j with
  | nil => simp
  | cons a r ih =>
    cases j with
    | zero => simp
    | succ j => have := ih j; simp at this ⊢; omega
theorem sizes_drop (l : List ByteArray) (j : Nat) : sizes (l.drop j) ≤ sizes l := by
  unfold sizes
  induction l generalizing j with
  | nil => simp
  | cons a r ih =>
    cases j with
    | zero => simp
    | succ j => have := ih j; simp at this ⊢; omega
/-- A number for a new node: one that was given up, or the next. -/
def FreshIn (s : St) (r : Nat) (gone' : List Nat) : Prop := (s.gone = gone' ++ [r] ∧ s.ns[r]? = some nilNode) ∨ (s.gone = [] ∧ gone' = [] ∧ r = s.ns.length)
structure SplitTo (s : St) (at_ k left : Nat) (na nl : Node) (r : Nat) (s' : St) : Prop where
  fresh : FreshIn s r s'.gone
  top : s'.top = s.top
  len : s'.ns.length = max s.ns.length (r + 1)
  rest : ∀ j, j ≠ at_ → j ≠ left → j ≠ r → s'.ns[j]? = s.ns[j]?
  L : ∃ v u, s'.ns[left]? = some ⟨v, u, nl.lines.take (nl.lines.length / 2), nl.kids.take (nl.kids.length / 2), (nl.lines.take (nl.lines.length / 2)).length + ((nl.kids.take (nl.kids.length / 2)).map s.cnt).sum, sizes (nl.lines.take (nl.lines.length / 2)) + ((nl.kids.take (nl.kids.length / 2)).map s.byt).sum⟩ ∧ (nl.lines = [] → v = .slice none 0 0) ∧ (nl.kids = [] → u = .slice none 0 0)
  R : ∃ v u, s'.ns[r]? = some ⟨v, u, nl.lines.drop (nl.lines.length / 2), nl.kids.drop (nl.kids.length / 2), (nl.lines.drop (nl.lines.length / 2)).length + ((nl.kids.drop (nl.kids.length / 2)).map s.cnt).sum, sizes (nl.lines.drop (nl.lines.length / 2)) + ((nl.kids.drop (nl.kids.length / 2)).map s.byt).sum⟩ ∧ (nl.lines = [] → v = .slice none 0 0) ∧ (nl.kids = [] → u = .slice none 0 0)
  A : ∃ u, s'.ns[at_]? = some { na with vk := u, kids := na.kids.take (k + 1) ++ r :: na.kids.drop (k + 1) }

section
variable {o : Own} {w : World} {t : Nat} {s : St} {vn vg : Value}
set_option maxHeartbeats 8000000 in
theorem split_any (h : Rep o w t s vn vg) (hlen : s.ns.length < 400000000) {at_ k left : Nat} {na nl : Node}
    (hat : s.ns[at_]? = some na) (hk : na.kids[k]? = some left) (hl : s.ns[left]? = some nl) (hne : left ≠ at_)
    (hgone : ∀ r g0, s.gone = g0 ++ [r] → s.ns[r]? = some nilNode ∧ r ≠ at_ ∧ r ≠ left ∧ r ∉ nl.kids)
    (hc1 : nl.kids = [] → nl.vk = .slice none 0 0) (hc2 : nl.lines = [] → nl.vl = .slice none 0 0) (hks : ∀ c ∈ nl.kids, c < s.ns.length ∧ c ≠ left ∧ c ≠ at_)
    (hb1 : nl.lines.length + (nl.kids.map s.cnt).sum < 2 ^ 62) (hb2 : sizes nl.lines + (nl.kids.map s.byt).sum < 2 ^ 62) (hb3 : nl.lines.length < 400000000 ∧ nl.kids.length < 400000000 ∧ na.kids.length < 400000000) :
    Calls Tryz.prog 209 #[.pointer (some ⟨t, 0, none⟩), .int .i64 at_, .int .i64 k] w fun e w' => e = .returned (.tuple #[]) ∧ ∃ r s', SplitTo s at_ k left na nl r s' ∧ Did o w t s' w' := by
  go_enter Tryz.func209, Tryz.ntmps209
  go_wp2_with fail
  refine (fresh_any h (by omega)).mono ?_
  rintro e w1 ⟨r, s1, rfl, ⟨o1, vn1, vg1, h1, K1⟩, hfr, htop1⟩
  -- the tree behind fresh
  have hr1 : s1.ns[r]? = some nilNode ∧ r ≠ at_ ∧ r ≠ left ∧ r ∉ nl.kids := by
    rcases hfr with ⟨e1, e2⟩ | ⟨e1, _, rfl, e2⟩
    · have := hgone r _ e1; rw [e2]; exact this
    · have l1 := (List.getElem?_eq_some_iff.1 hat).1
      have l2 := (List.getElem?_eq_some_iff.1 hl).1
      exact ⟨by rw [e2]; simp, by omega, by omega, fun hm => by have := (hks _ hm).1; omega⟩
  obtain ⟨hr1, hra, hrl, hrk⟩ := hr1
  have hold : ∀ (j : Nat) n, s.ns[j]? = some n → s1.ns[j]? = some n := by
    intro j n hj
    rcases hfr with ⟨_, e2⟩ | ⟨_, _, _, e2⟩
    · rw [e2]; exact hj
    · rw [e2, List.getElem?_append_left (List.getElem?_eq_some_iff.1 hj).1]; exact hj
  have hat1 := hold _ _ hat
  have hl1 := hold _ _ hl
  have lA : at_ < s1.ns.length := (List.getElem?_eq_some_iff.1 hat1).1
  have lL : left < s1.ns.length := (List.getElem?_eq_some_iff.1 hl1).1
  have lR : r < s1.ns.length := (List.getElem?_eq_some_iff.1 hr1).1
  have hlen1 : s1.ns.length < 800000000 := by
    rcases hfr with ⟨_, e2⟩ | ⟨_, _, _, e2⟩
    · rw [e2]; omega
    · rw [e2]; simp; omega
  obtain ⟨b, cap, hvn, hob, n1, n2, hcc⟩ := h1.nodeCells (by omega)
  clear hcc
  obtain ⟨a0, cl0, cl1, cl2, cl3, cf⟩ := h1.cellsAt hl1 hvn
  obtain ⟨zz1, ca0, ca1, ca2, ca3, zz2⟩ := h1.cellsAt hat1 hvn
  clear zz1 zz2
  obtain ⟨kb, kc, hvk, hko, hk1, hk2, hkc⟩ := kidsCells h1 hat1 (by simp) (by have := (List.getElem?_eq_some_iff.1 hk).1; omega)
  have hkl := (List.getElem?_eq_some_iff.1 hk).1
  have hkcell := (hkc k left hk).1
  rw [hvk] at ca1
  rw [hvn] at a0
  unfold maxLen at n2 hk2
  have H1 : Hid (Rep o1 w1 t s1 vn1 vg1 ∧ Keeps o o1 w w1) := ⟨h1, K1⟩
  have G : Hid ((s1.ns[at_]? = some na ∧ s1.ns[left]? = some nl ∧ s1.ns[r]? = some nilNode) ∧ (∀ (j : Nat) n, s.ns[j]? = some n → s1.ns[j]? = some n) ∧ s1.top = s.top ∧ ((s.gone = s1.gone ++ [r] ∧ s1.ns = s.ns) ∨ (s.gone = [] ∧ s1.gone = [] ∧ r = s.ns.length ∧ s1.ns = s.ns ++ [nilNode]))) := ⟨⟨hat1, hl1, hr1⟩, hold, htop1, hfr⟩
  have GH : Hid ((∀ r g0, s.gone = g0 ++ [r] → s.ns[r]? = some nilNode ∧ r ≠ at_ ∧ r ≠ left ∧ r ∉ nl.kids) ∧ (∀ c ∈ nl.kids, c < s.ns.length ∧ c ≠ left ∧ c ≠ at_) ∧ (nl.kids = [] → nl.vk = .slice none 0 0) ∧ (nl.lines = [] → nl.vl = .slice none 0 0) ∧ na.kids[k]? = some left ∧ s.ns[at_]? = some na ∧ s.ns[left]? = some nl ∧ r ∉ nl.kids) := ⟨hgone, hks, hc1, hc2, hk, hat, hl, hrk⟩
  have GB : Hid (nl.lines.length + (nl.kids.map s.cnt).sum < 2 ^ 62 ∧ sizes nl.lines + (nl.kids.map s.byt).sum < 2 ^ 62) := ⟨hb1, hb2⟩
  have GV : Hid (vn1 = .slice (some ⟨b, 0, none⟩) s1.ns.length cap) := hvn
  have GK : Hid (na.vk = .slice (some ⟨kb, 0, none⟩) na.kids.length kc) := hvk
  obtain ⟨N, hN⟩ : ∃ N, s1.ns.length = N := ⟨_, rfl⟩
  have HN : Hid (s1.ns.length = N) := hN
  rw [hN] at a0 n1 lA lL lR hlen1
  clear h1 K1 hr1 hat1 hl1 hold htop1 hfr hgone hks hc1 hc2 hk hat hl hb1 hb2 hvn hvk hkc hrk h hN hlen
  go_wp2_with fail
  go_quiet (fail)
  go_wp2_with fail
  have HD : Hid (Rep o1 (w1.drewN nq) t s1 vn1 vg1 ∧ Keeps o o1 w (w1.drewN nq)) := ⟨H1.out.1.drewN nq, H1.out.2.drewN' nq⟩
  refine (halvesS_any (HD.out.1.lines left nl G.out.1.2.1 (by simp)) HD.out.1.lt (by simp) (by omega) GH.out.2.2.2.1).mono ?_
  rintro e w2 ⟨v1, v2, rfl, HS⟩
  obtain ⟨x1, y1, rfl, _, _⟩ := HS.1.form
  obtain ⟨x2, y2, rfl⟩ := owns_form HS.2.1
  obtain ⟨v1, hv1⟩ : ∃ v1, v1 = Value.slice x1 (nl.lines.take (nl.lines.length / 2)).length y1 := ⟨_, rfl⟩
  obtain ⟨v2, hv2⟩ : ∃ v2, v2 = Value.slice x2 (nl.lines.drop (nl.lines.length / 2)).length y2 := ⟨_, rfl⟩
  rw [← hv1, ← hv2] at HS
  have HE1 : Hid (nl.lines = [] → v1 = .slice none 0 0 ∧ v2 = .slice none 0 0) := HS.2.2.2
  obtain ⟨hcell2, o2, h2, K2⟩ := stepL HD.out.1 GV.out G.out.1.2.1 G.out.1.2.2 hrl HS
  obtain ⟨W3, hW3⟩ : ∃ W3, W3 = (w2.setCell ⟨b, left * 4, none⟩ v1).setCell ⟨b, r * 4, none⟩ v2 := ⟨_, rfl⟩
  have HW3 : Hid (W3 = (w2.setCell ⟨b, left * 4, none⟩ v1).setCell ⟨b, r * 4, none⟩ v2) := hW3
  rw [← hW3] at h2 K2
  have p1 : w2.cell? ⟨b, left * 4, none⟩ = some nl.vl := by rw [(hcell2 _).1]; simpa using cl0
  have p2 : ∀ j, w2.frozen? ⟨b, j, none⟩ = false := fun j => by rw [(hcell2 _).2]; simpa using cf j
  have p3 : (w2.cell? ⟨b, r * 4, none⟩).isSome = true := by
    rw [(hcell2 _).1]; obtain ⟨_, q0, _⟩ := HD.out.1.cellsAt G.out.1.2.2 GV.out; rw [q0]; rfl
  obtain ⟨pv, p3⟩ := Option.isSome_iff_exists.1 p3
  clear hcell2 hW3 HS
  have HV1 : Hid (v1 = Value.slice x1 (nl.lines.take (nl.lines.length / 2)).length y1) := hv1
  have HV2 : Hid (v2 = Value.slice x2 (nl.lines.drop (nl.lines.length / 2)).length y2) := hv2
  clear hv1 hv2
  have HH : Hid (Rep o2 W3 t ((s1.put left { nl with vl := v1, lines := nl.lines.take (nl.lines.length / 2) }).put r { nilNode with vl := v2, lines := nl.lines.drop (nl.lines.length / 2) }) vn1 vg1 ∧ Keeps o o2 w W3) := ⟨h2, HD.out.2.trans K2⟩
  clear h2 K2 a0 cl0 cl1 cl2 cl3 cf ca0 ca1 ca2 ca3 hkcell
  rw [HV1.out, HV2.out] at HW3
  generalize (nl.lines.take (nl.lines.length / 2)).length = M1 at *
  generalize (nl.lines.drop (nl.lines.length / 2)).length = M2 at *
  go_upto_region 4 with fail
  rw [← HW3.out]
  clear HW3 p1 p2 p3 pv
  have hlA := put_same (s := s1) { nl with vl := v1, lines := nl.lines.take (nl.lines.length / 2) } (by rw [HN.out]; exact lL)
  have GB1 : Hid (((s1.put left { nl with vl := v1, lines := nl.lines.take (nl.lines.length / 2) }).put r { nilNode with vl := v2, lines := nl.lines.drop (nl.lines.length / 2) }).ns[left]? = some { nl with vl := v1, lines := nl.lines.take (nl.lines.length / 2) } ∧
      ((s1.put left { nl with vl := v1, lines := nl.lines.take (nl.lines.length / 2) }).put r { nilNode with vl := v2, lines := nl.lines.drop (nl.lines.length / 2) }).ns[r]? = some { nilNode with vl := v2, lines := nl.lines.drop (nl.lines.length / 2) } ∧
      ((s1.put left { nl with vl := v1, lines := nl.lines.take (nl.lines.length / 2) }).put r { nilNode with vl := v2, lines := nl.lines.drop (nl.lines.length / 2) }).ns[at_]? = some na) :=
    ⟨by rw [put_ne _ (Ne.symm hrl)]; exact hlA, put_same _ (by rw [put_len, HN.out]; exact lR), by rw [put_ne _ (Ne.symm hra), put_ne _ (Ne.symm hne)]; exact G.out.1.1⟩
  clear hlA
  generalize hsB : (s1.put left { nl with vl := v1, lines := nl.lines.take (nl.lines.length / 2) }).put r { nilNode with vl := v2, lines := nl.lines.drop (nl.lines.length / 2) } = sB at HH GB1
  have HsB : Hid ((s1.put left { nl with vl := v1, lines := nl.lines.take (nl.lines.length / 2) }).put r { nilNode with vl := v2, lines := nl.lines.drop (nl.lines.length / 2) } = sB) := hsB
  clear hsB
  obtain ⟨a0, cl0, cl1, cl2, cl3, cf⟩ := HH.out.1.cellsAt GB1.out.1 GV.out
  have a0' : W3.cell? ⟨t, 0, none⟩ = some (.slice (some ⟨b, 0, none⟩) N cap) := by rw [a0, GV.out, HN.out]
  clear a0 cl0 cl2 cl3
  have cl1' : W3.cell? ⟨b, left * 4 + 1, none⟩ = some nl.vk := cl1
  clear cl1
  go_wp2_with fail
  have hkr0 := HH.out.1.kids left _ GB1.out.1 (by simp)
  have hkr : Row o2 W3 (.kids left) 3 1 nl.vk nl.kids.length (nums nl.kids) := hkr0
  clear hkr0
  refine (halvesI_any (l := nl.kids) hkr HH.out.1.lt (by simp) (by omega) GH.out.2.2.1).mono ?_
  rintro e w4 ⟨v3, v4, rfl, HS⟩
  clear hkr
  obtain ⟨x3, y3, rfl, _, _⟩ := HS.1.form
  obtain ⟨x4, y4, rfl⟩ := owns_form HS.2.1
  obtain ⟨v3, hv3⟩ : ∃ v3, v3 = Value.slice x3 (nl.kids.take (nl.kids.length / 2)).length y3 := ⟨_, rfl⟩
  obtain ⟨v4, hv4⟩ : ∃ v4, v4 = Value.slice x4 (nl.kids.drop (nl.kids.length / 2)).length y4 := ⟨_, rfl⟩
  rw [← hv3, ← hv4] at HS
  have HE3 : Hid (nl.kids = [] → v3 = .slice none 0 0 ∧ v4 = .slice none 0 0) := HS.2.2.2
  obtain ⟨hcell2, o4, h4, K4⟩ := stepK HH.out.1 GV.out GB1.out.1 GB1.out.2.1 hrl HS
  obtain ⟨W5, hW5⟩ : ∃ W5, W5 = (w4.setCell ⟨b, left * 4 + 1, none⟩ v3).setCell ⟨b, r * 4 + 1, none⟩ v4 := ⟨_, rfl⟩
  have HW5 : Hid (W5 = (w4.setCell ⟨b, left * 4 + 1, none⟩ v3).setCell ⟨b, r * 4 + 1, none⟩ v4) := hW5
  rw [← hW5] at h4 K4
  have p1 : w4.cell? ⟨b, left * 4 + 1, none⟩ = some nl.vk := by rw [(hcell2 _).1]; exact cl1'
  have p2 : ∀ j, w4.frozen? ⟨b, j, none⟩ = false := fun j => by rw [(hcell2 _).2]; exact cf j
  have p3 : (w4.cell? ⟨b, r * 4 + 1, none⟩).isSome = true := by
    rw [(hcell2 _).1]; obtain ⟨_, _, q1, _⟩ := HH.out.1.cellsAt GB1.out.2.1 GV.out; rw [q1]; rfl
  obtain ⟨pv, p3⟩ := Option.isSome_iff_exists.1 p3
  clear hcell2 hW5 HS
  have HV3 : Hid (v3 = Value.slice x3 (nl.kids.take (nl.kids.length / 2)).length y3) := hv3
  have HV4 : Hid (v4 = Value.slice x4 (nl.kids.drop (nl.kids.length / 2)).length y4) := hv4
  clear hv3 hv4
  have HI : Hid (Rep o4 W5 t ((sB.put left ⟨v1, v3, nl.lines.take (nl.lines.length / 2), nl.kids.take (nl.kids.length / 2), nl.count, nl.bytes⟩).put r ⟨v2, v4, nl.lines.drop (nl.lines.length / 2), nl.kids.drop (nl.kids.length / 2), 0, 0⟩) vn1 vg1 ∧ Keeps o o4 w W5) := ⟨h4, HH.out.2.trans K4⟩
  clear h4 K4 a0' cl1' cf
  rw [HV3.out, HV4.out] at HW5
  generalize (nl.kids.take (nl.kids.length / 2)).length = M3 at *
  generalize (nl.kids.drop (nl.kids.length / 2)).length = M4 at *
  go_upto_region 5 with fail
  rw [← HW5.out]
  clear HW5 p1 p2 p3 pv
  have lB : sB.ns.length = N := by rw [← HsB.out, put_len, put_len, HN.out]
  have GD : Hid (((sB.put left ⟨v1, v3, nl.lines.take (nl.lines.length / 2), nl.kids.take (nl.kids.length / 2), nl.count, nl.bytes⟩).put r ⟨v2, v4, nl.lines.drop (nl.lines.length / 2), nl.kids.drop (nl.kids.length / 2), 0, 0⟩).ns[left]? = some ⟨v1, v3, nl.lines.take (nl.lines.length / 2), nl.kids.take (nl.kids.length / 2), nl.count, nl.bytes⟩ ∧
      ((sB.put left ⟨v1, v3, nl.lines.take (nl.lines.length / 2), nl.kids.take (nl.kids.length / 2), nl.count, nl.bytes⟩).put r ⟨v2, v4, nl.lines.drop (nl.lines.length / 2), nl.kids.drop (nl.kids.length / 2), 0, 0⟩).ns[r]? = some ⟨v2, v4, nl.lines.drop (nl.lines.length / 2), nl.kids.drop (nl.kids.length / 2), 0, 0⟩ ∧
      ((sB.put left ⟨v1, v3, nl.lines.take (nl.lines.length / 2), nl.kids.take (nl.kids.length / 2), nl.count, nl.bytes⟩).put r ⟨v2, v4, nl.lines.drop (nl.lines.length / 2), nl.kids.drop (nl.kids.length / 2), 0, 0⟩).ns[at_]? = some na) :=
    ⟨by rw [put_ne _ (Ne.symm hrl)]; exact put_same _ (by rw [lB]; exact lL), put_same _ (by rw [put_len, lB]; exact lR), by rw [put_ne _ (Ne.symm hra), put_ne _ (Ne.symm hne)]; exact GB1.out.2.2⟩
  generalize hsD : (sB.put left ⟨v1, v3, nl.lines.take (nl.lines.length / 2), nl.kids.take (nl.kids.length / 2), nl.count, nl.bytes⟩).put r ⟨v2, v4, nl.lines.drop (nl.lines.length / 2), nl.kids.drop (nl.kids.length / 2), 0, 0⟩ = sD at HI GD
  have HsD : Hid ((sB.put left ⟨v1, v3, nl.lines.take (nl.lines.length / 2), nl.kids.take (nl.kids.length / 2), nl.count, nl.bytes⟩).put r ⟨v2, v4, nl.lines.drop (nl.lines.length / 2), nl.kids.drop (nl.kids.length / 2), 0, 0⟩ = sD) := hsD
  have lD : sD.ns.length = N := by rw [← hsD, put_len, put_len, lB]
  have HLD : Hid (sD.ns.length = N) := lD
  clear hsD lB lD
  obtain ⟨a0, ca0, ca1, ca2, ca3, cf⟩ := HI.out.1.cellsAt GD.out.2.2 GV.out
  rw [GV.out, HN.out] at a0
  rw [GK.out] at ca1
  clear ca0 ca2 ca3
  have hkl' : (k : Int) + 1 ≤ (na.kids.length : Int) := by omega
  have hwr : IntKind.i64.wrap ((k : Int) + 1) = (k : Int) + 1 := by rw [IntKind.wrap_i64]; omega
  have HC : Hid (∀ W : World, W.heap = (W5.alloc (.cells #[.int .i64 r] 3)).heap → W.os = W5.os → W.tape = W5.tape → W.output = W5.output → Calls Tryz.prog 219 #[.slice (some ⟨kb, 0, none⟩) na.kids.length kc, .int .i64 ((k : Int) + 1), .slice (some ⟨W5.heap.size, 0, none⟩) 1 1] W fun e w' =>
      ∃ x6 y6, e = .returned (.slice x6 (na.kids.length + 1) y6) ∧ (∀ j, w'.cell? ⟨b, j, none⟩ = W5.cell? ⟨b, j, none⟩ ∧ w'.frozen? ⟨b, j, none⟩ = false ∧ w'.cell? ⟨t, j, none⟩ = W5.cell? ⟨t, j, none⟩) ∧ ∃ o6, Rep o6 (w'.setCell ⟨b, at_ * 4 + 1, none⟩ (.slice x6 (na.kids.length + 1) y6)) t (sD.put at_ { na with vk := .slice x6 (na.kids.length + 1) y6, kids := na.kids.take (k + 1) ++ r :: na.kids.drop (k + 1) }) vn1 vg1 ∧
        Keeps o o6 w (w'.setCell ⟨b, at_ * 4 + 1, none⟩ (.slice x6 (na.kids.length + 1) y6))) := by
    intro W e1 e2 e3 e4
    have hr0 : Rep o4 W t sD vn1 vg1 := (HI.out.1.alloc (.cells #[.int .i64 r] 3)).heap e1
    have hk0 : Keeps o o4 w W := by
      have := HI.out.2.alloc (.cells #[.int .i64 r] 3)
      exact ⟨e2.trans this.os, e3.trans this.tape, e4.trans this.output, by rw [e1]; exact this.size, fun j hj hf => by rw [e1]; exact this.block j hj hf, this.own⟩
    have hrow := hr0.kids at_ na GD.out.2.2 (by simp)
    rw [GK.out] at hrow
    have hvb : W.heap[W5.heap.size]? = some (.cells #[.int .i64 r] 3 (0, 0)) := by rw [e1]; exact alloc_new W5 _
    have hc := insI_any (x := .int .i64 r) (i := k + 1) (vb := W5.heap.size) hrow (nums_one _) hr0.lt (by simp) (by omega) (by omega) hvb rfl (HI.out.1.free_new (Nat.le_refl _))
    have ek : (((k + 1 : Nat)) : Int) = (k : Int) + 1 := by omega
    rw [ek] at hc
    refine hc.mono ?_
    rintro e w' ⟨v', o6, rfl, hr6, kb6⟩
    obtain ⟨x6, y6, rfl, _, _⟩ := hr6.form
    have hb6 : w'.heap[b]? = W5.heap[b]? := by
      have hobN : o4 b = .nodes := HI.out.1.nodes.2 b (by rw [GV.out]; rfl)
      have hbl : b < W5.heap.size := HI.out.1.lt b (by rw [hobN]; simp)
      rw [kb6.block b (by rw [e1]; simp; omega) (by rw [hobN]; simp), e1]; exact alloc_old' W5 _ b hbl
    have ht6 : w'.heap[t]? = W5.heap[t]? := by
      rw [kb6.block t hr0.tlt (by rw [hr0.ot]; simp), e1]; exact alloc_old' W5 _ t HI.out.1.tlt
    refine ⟨x6, y6, rfl, fun j => ⟨by simp [World.cell?, hb6], ?_, by simp [World.cell?, ht6]⟩, ?_⟩
    · have : w'.frozen? ⟨b, j, none⟩ = W5.frozen? ⟨b, j, none⟩ := by simp [World.frozen?, hb6]
      rw [this]; exact cf j
    · have x1 := (RepX.open_ hr0 (.kids at_)).kb kb6 (by simp) (by simp) (by simp)
      have hlen : (na.kids.take (k + 1) ++ r :: na.kids.drop (k + 1)).length = na.kids.length + 1 := by simp; omega
      have hr6' : Row o6 w' (.kids at_) 3 1 (.slice x6 (na.kids.length + 1) y6) (na.kids.take (k + 1) ++ r :: na.kids.drop (k + 1)).length (nums (na.kids.take (k + 1) ++ r :: na.kids.drop (k + 1))) := by
        rw [hlen]; simpa [nums, List.map_take, List.map_drop] using hr6
      have x2 := x1.storeK (.inl rfl) GD.out.2.2 GV.out hr6'
      exact ⟨o6, x2, (hk0.trans (kb6.keeps (by simp))).setCell (x2.ob GV.out)⟩
  have htb : b ≠ t := by intro e; have := HI.out.1.nodes.2 b (by rw [GV.out]; rfl); rw [e, HI.out.1.ot] at this; cases this
  have hal : ((W5.alloc (.cells #[.int .i64 r] 3))).cell? ⟨t, 0, none⟩ = some (.slice (some ⟨b, 0, none⟩) N cap) := by
    rw [← a0]; simp [World.cell?, alloc_old' W5 _ t HI.out.1.tlt]
  have hal2 : ((W5.alloc (.cells #[.int .i64 r] 3))).cell? ⟨b, at_ * 4 + 1, none⟩ = some (.slice (some ⟨kb, 0, none⟩) na.kids.length kc) := by
    rw [← ca1]; simp [World.cell?, alloc_old' W5 _ b (HI.out.1.lt b (HI.out.1.ob GV.out))]
  have rule : ∀ w', Tk t (.slice (some ⟨b, 0, none⟩) N cap) w' → w'.cell? ⟨t, 0, none⟩ = some (.slice (some ⟨b, 0, none⟩) N cap) := fun _ h => h
  have FO : Hid (∀ u (j : Nat), j ≠ at_ → j ≠ left → j ≠ r → (sD.put at_ { na with vk := u, kids := na.kids.take (k + 1) ++ r :: na.kids.drop (k + 1) }).ns[j]? = s1.ns[j]?) := by
    intro u j h1 h2 h3
    rw [put_ne _ h1, ← HsD.out, put_ne _ h3, put_ne _ h2, ← HsB.out, put_ne _ h3, put_ne _ h2]
  have FS : Hid (∀ c ∈ nl.kids, s1.ns[c]? = s.ns[c]? ∧ c < N) := by
    intro c hc
    have hlt := (GH.out.2.1 c hc).1
    have := G.out.2.1 c _ (List.getElem?_eq_getElem hlt)
    exact ⟨by rw [this, List.getElem?_eq_getElem hlt], by rw [← HN.out]; exact (List.getElem?_eq_some_iff.1 this).1⟩
  have FC : Hid (∀ u, ∀ c ∈ nl.kids, (sD.put at_ { na with vk := u, kids := na.kids.take (k + 1) ++ r :: na.kids.drop (k + 1) }).ns[c]? = s.ns[c]?) := by
    intro u c hc
    obtain ⟨_, h2, h3⟩ := GH.out.2.1 c hc
    rw [FO.out u c h3 h2 (fun e => GH.out.2.2.2.2.2.2.2 (by rw [← e]; exact hc)), (FS.out c hc).1]
  have FW1 : Hid (∀ u (W : World) o6, Rep o6 W t (sD.put at_ { na with vk := u, kids := na.kids.take (k + 1) ++ r :: na.kids.drop (k + 1) }) vn1 vg1 → Calls Tryz.prog 208 #[.pointer (some ⟨t, 0, none⟩), .int .i64 left] W fun e w' => e = .returned (.tuple #[]) ∧
      Rep o6 w' t ((sD.put at_ { na with vk := u, kids := na.kids.take (k + 1) ++ r :: na.kids.drop (k + 1) }).put left ⟨v1, v3, nl.lines.take (nl.lines.length / 2), nl.kids.take (nl.kids.length / 2), (nl.lines.take (nl.lines.length / 2)).length + ((nl.kids.take (nl.kids.length / 2)).map s.cnt).sum, sizes (nl.lines.take (nl.lines.length / 2)) + ((nl.kids.take (nl.kids.length / 2)).map s.byt).sum⟩) vn1 vg1 ∧ Keeps o6 o6 W w') := by
    intro u W o6 hr6
    have hL : (sD.put at_ { na with vk := u, kids := na.kids.take (k + 1) ++ r :: na.kids.drop (k + 1) }).ns[left]? = some ⟨v1, v3, nl.lines.take (nl.lines.length / 2), nl.kids.take (nl.kids.length / 2), nl.count, nl.bytes⟩ := by rw [put_ne _ hne]; exact GD.out.1
    have e1 : (nl.kids.take (nl.kids.length / 2)).map (sD.put at_ { na with vk := u, kids := na.kids.take (k + 1) ++ r :: na.kids.drop (k + 1) }).cnt = (nl.kids.take (nl.kids.length / 2)).map s.cnt := List.map_congr_left fun c hc => by simp only [St.cnt, FC.out u c (List.mem_of_mem_take hc)]
    have e2 : (nl.kids.take (nl.kids.length / 2)).map (sD.put at_ { na with vk := u, kids := na.kids.take (k + 1) ++ r :: na.kids.drop (k + 1) }).byt = (nl.kids.take (nl.kids.length / 2)).map s.byt := List.map_congr_left fun c hc => by simp only [St.byt, FC.out u c (List.mem_of_mem_take hc)]
    have b1 := sum_take nl.kids s.cnt (nl.kids.length / 2)
    have b2 := sum_take nl.kids s.byt (nl.kids.length / 2)
    have b3 := sizes_take nl.lines (nl.lines.length / 2)
    have b4 : (nl.lines.take (nl.lines.length / 2)).length ≤ nl.lines.length := by simp; omega
    have gb := GB.out
    have hw := weigh_any hr6 hL (fun c hc => ⟨by rw [put_len, HLD.out]; exact (FS.out c (List.mem_of_mem_take hc)).2, (GH.out.2.1 c (List.mem_of_mem_take hc)).2.1⟩) (by rw [e1]; show (nl.lines.take (nl.lines.length / 2)).length + _ < _; omega) (by rw [e2]; show sizes (nl.lines.take (nl.lines.length / 2)) + _ < _; omega)
    rw [e1, e2] at hw
    exact hw
  have FW2 : Hid (∀ u (W : World) o6 X, Rep o6 W t ((sD.put at_ { na with vk := u, kids := na.kids.take (k + 1) ++ r :: na.kids.drop (k + 1) }).put left X) vn1 vg1 → Calls Tryz.prog 208 #[.pointer (some ⟨t, 0, none⟩), .int .i64 r] W fun e w' => e = .returned (.tuple #[]) ∧
      Rep o6 w' t (((sD.put at_ { na with vk := u, kids := na.kids.take (k + 1) ++ r :: na.kids.drop (k + 1) }).put left X).put r ⟨v2, v4, nl.lines.drop (nl.lines.length / 2), nl.kids.drop (nl.kids.length / 2), (nl.lines.drop (nl.lines.length / 2)).length + ((nl.kids.drop (nl.kids.length / 2)).map s.cnt).sum, sizes (nl.lines.drop (nl.lines.length / 2)) + ((nl.kids.drop (nl.kids.length / 2)).map s.byt).sum⟩) vn1 vg1 ∧ Keeps o6 o6 W w') := by
    intro u W o6 X hr6
    have hL : ((sD.put at_ { na with vk := u, kids := na.kids.take (k + 1) ++ r :: na.kids.drop (k + 1) }).put left X).ns[r]? = some ⟨v2, v4, nl.lines.drop (nl.lines.length / 2), nl.kids.drop (nl.kids.length / 2), 0, 0⟩ := by rw [put_ne _ hrl, put_ne _ hra]; exact GD.out.2.1
    have FC2 : ∀ c ∈ nl.kids, ((sD.put at_ { na with vk := u, kids := na.kids.take (k + 1) ++ r :: na.kids.drop (k + 1) }).put left X).ns[c]? = s.ns[c]? := fun c hc => by rw [put_ne _ (GH.out.2.1 c hc).2.1]; exact FC.out u c hc
    have e1 : (nl.kids.drop (nl.kids.length / 2)).map ((sD.put at_ { na with vk := u, kids := na.kids.take (k + 1) ++ r :: na.kids.drop (k + 1) }).put left X).cnt = (nl.kids.drop (nl.kids.length / 2)).map s.cnt := List.map_congr_left fun c hc => by simp only [St.cnt, FC2 c (List.mem_of_mem_drop hc)]
    have e2 : (nl.kids.drop (nl.kids.length / 2)).map ((sD.put at_ { na with vk := u, kids := na.kids.take (k + 1) ++ r :: na.kids.drop (k + 1) }).put left X).byt = (nl.kids.drop (nl.kids.length / 2)).map s.byt := List.map_congr_left fun c hc => by simp only [St.byt, FC2 c (List.mem_of_mem_drop hc)]
    have b1 := sum_drop nl.kids s.cnt (nl.kids.length / 2)
    have b2 := sum_drop nl.kids s.byt (nl.kids.length / 2)
    have b3 := sizes_drop nl.lines (nl.lines.length / 2)
    have b4 : (nl.lines.drop (nl.lines.length / 2)).length ≤ nl.lines.length := by simp
    have gb := GB.out
    have hw := weigh_any hr6 hL (fun c hc => ⟨by rw [put_len, put_len, HLD.out]; exact (FS.out c (List.mem_of_mem_drop hc)).2, fun e => GH.out.2.2.2.2.2.2.2 (by rw [← e]; exact List.mem_of_mem_drop hc)⟩) (by rw [e1]; show (nl.lines.drop (nl.lines.length / 2)).length + _ < _; omega) (by rw [e2]; show sizes (nl.lines.drop (nl.lines.length / 2)) + _ < _; omega)
    rw [e1, e2] at hw
    exact hw
  have FIN : Hid (∀ u, SplitTo s at_ k left na nl r (((sD.put at_ { na with vk := u, kids := na.kids.take (k + 1) ++ r :: na.kids.drop (k + 1) }).put left ⟨v1, v3, nl.lines.take (nl.lines.length / 2), nl.kids.take (nl.kids.length / 2), (nl.lines.take (nl.lines.length / 2)).length + ((nl.kids.take (nl.kids.length / 2)).map s.cnt).sum, sizes (nl.lines.take (nl.lines.length / 2)) + ((nl.kids.take (nl.kids.length / 2)).map s.byt).sum⟩).put r ⟨v2, v4, nl.lines.drop (nl.lines.length / 2), nl.kids.drop (nl.kids.length / 2), (nl.lines.drop (nl.lines.length / 2)).length + ((nl.kids.drop (nl.kids.length / 2)).map s.cnt).sum, sizes (nl.lines.drop (nl.lines.length / 2)) + ((nl.kids.drop (nl.kids.length / 2)).map s.byt).sum⟩)) := by
    intro u
    have hgt : sD.gone = s1.gone ∧ sD.top = s1.top := by rw [← HsD.out, ← HsB.out]; exact ⟨rfl, rfl⟩
    refine ⟨?_, ?_, ?_, ?_, ⟨v1, v3, ?_, fun e => (HE1.out e).1, fun e => (HE3.out e).1⟩, ⟨v2, v4, ?_, fun e => (HE1.out e).2, fun e => (HE3.out e).2⟩, ⟨u, ?_⟩⟩
    · show FreshIn s r sD.gone
      rw [hgt.1]
      rcases G.out.2.2.2 with ⟨e1, e2⟩ | ⟨e1, e2, e3, _⟩
      · exact .inl ⟨e1, by rw [← e2]; exact G.out.1.2.2⟩
      · exact .inr ⟨e1, e2, e3⟩
    · show sD.top = s.top
      rw [hgt.2, G.out.2.2.1]
    · rw [put_len, put_len, put_len, HLD.out, ← HN.out]
      rcases G.out.2.2.2 with ⟨e1, e2⟩ | ⟨e1, e2, e3, e4⟩
      · have := (List.getElem?_eq_some_iff.1 G.out.1.2.2).1
        rw [e2] at this ⊢; omega
      · rw [e4, e3]; simp
    · intro j h1 h2 h3
      rw [put_ne _ h3, put_ne _ h2, FO.out u j h1 h2 h3]
      rcases G.out.2.2.2 with ⟨e1, e2⟩ | ⟨e1, e2, e3, e4⟩
      · rw [e2]
      · rw [e4, List.getElem?_append]
        split
        · rfl
        · rw [List.getElem?_eq_none (by simp; omega), List.getElem?_eq_none (by omega)]
    · rw [put_ne _ (Ne.symm hrl)]; exact put_same _ (by rw [put_len, HLD.out]; exact lL)
    · exact put_same _ (by rw [put_len, put_len, HLD.out]; exact lR)
    · rw [put_ne _ (Ne.symm hra), put_ne _ (Ne.symm hne)]; exact put_same _ (by rw [HLD.out]; exact lA)
  refine wp_region_noPanic ?_
  refine wp_region_held_drew (S := Tk t (.slice (some ⟨b, 0, none⟩) N cap)) (by kernel_rfl) (a0) (fun hHeld => ?_)
  refine takeAt 0 (some 63) ?_ rfl rfl (by kernel_rfl) (by kernel_rfl) (by kernel_rfl) (fun _ _ _ h => h) (Or.inl ⟨by rfl, ?_⟩) hHeld ?_
  rotate_left
  · intro w hSw
    go_simp <;> with_reducible rfl
  try simp only [Act.put, List.setIfInBounds_toArray, List.set_cons_zero, List.set_cons_succ]
  refine takeAt 1 (some 64) ?_ rfl rfl (by kernel_rfl) (by kernel_rfl) (by kernel_rfl) (fun _ _ _ h => h) (Or.inl ⟨by rfl, ?_⟩) hHeld ?_
  rotate_left
  · intro w hSw
    go_simp <;> with_reducible rfl
  try simp only [Act.put, List.setIfInBounds_toArray, List.set_cons_zero, List.set_cons_succ]
  refine takeAt 2 (some 65) ?_ rfl rfl (by kernel_rfl) (by kernel_rfl) (by kernel_rfl) (fun _ _ _ h => h) (Or.inl ⟨by rfl, ?_⟩) hHeld ?_
  rotate_left
  · intro w hSw
    go_simp <;> with_reducible rfl
  try simp only [Act.put, List.setIfInBounds_toArray, List.set_cons_zero, List.set_cons_succ]
  refine takeAt 3 (some 66) ?_ rfl rfl (by kernel_rfl) (by kernel_rfl) (by kernel_rfl) (fun _ _ _ h => h) (Or.inl ⟨by rfl, ?_⟩) hHeld ?_
  rotate_left
  · intro w hSw
    go_simp <;> with_reducible rfl
  try simp only [Act.put, List.setIfInBounds_toArray, List.set_cons_zero, List.set_cons_succ]
  refine takeAt 4 (some 67) ?_ rfl rfl (by kernel_rfl) (by kernel_rfl) (by kernel_rfl) (fun _ _ _ h => h) (Or.inl ⟨by rfl, ?_⟩) hHeld ?_
  rotate_left
  · intro w hSw
    go_simp <;> with_reducible rfl
  try simp only [Act.put, List.setIfInBounds_toArray, List.set_cons_zero, List.set_cons_succ]
  refine takeAt 5 (some 68) ?_ rfl rfl (by kernel_rfl) (by kernel_rfl) (by kernel_rfl) (fun _ _ _ h => h) (Or.inl ⟨by rfl, ?_⟩) hHeld ?_
  rotate_left
  · intro w hSw
    go_simp <;> with_reducible rfl
  try simp only [Act.put, List.setIfInBounds_toArray, List.set_cons_zero, List.set_cons_succ]
  refine takeAt 6 (some 69) ?_ rfl rfl (by kernel_rfl) (by kernel_rfl) (by kernel_rfl) (fun _ _ _ h => h) (Or.inl ⟨by rfl, ?_⟩) hHeld ?_
  rotate_left
  · intro w hSw
    go_simp <;> with_reducible rfl
  try simp only [Act.put, List.setIfInBounds_toArray, List.set_cons_zero, List.set_cons_succ]
  refine takeAt 7 (some 70) ?_ rfl rfl (by kernel_rfl) (by kernel_rfl) (by kernel_rfl) (fun _ _ _ h => h) (Or.inl ⟨by rfl, ?_⟩) hHeld ?_
  rotate_left
  · intro w hSw
    go_simp <;> with_reducible rfl
  try simp only [Act.put, List.setIfInBounds_toArray, List.set_cons_zero, List.set_cons_succ]
  refine takeAt 8 (some 71) ?_ rfl rfl (by kernel_rfl) (by kernel_rfl) (by kernel_rfl) (fun _ _ _ h => h) (Or.inl ⟨by rfl, ?_⟩) hHeld ?_
  rotate_left
  · intro w hSw
    go_simp <;> with_reducible rfl
  try simp only [Act.put, List.setIfInBounds_toArray, List.set_cons_zero, List.set_cons_succ]
  refine takeAt 9 (some 72) ?_ rfl rfl (by kernel_rfl) (by kernel_rfl) (by kernel_rfl) (fun _ _ _ h => h) (Or.inl ⟨by rfl, ?_⟩) hHeld ?_
  rotate_left
  · intro w hSw
    go_simp <;> with_reducible rfl
  try simp only [Act.put, List.setIfInBounds_toArray, List.set_cons_zero, List.set_cons_succ]
  refine takeAt 10 (some 73) ?_ rfl rfl (by kernel_rfl) (by kernel_rfl) (by kernel_rfl) (fun _ _ _ h => h) (Or.inl ⟨by rfl, ?_⟩) hHeld ?_
  rotate_left
  · intro w hSw
    go_simp <;> with_reducible rfl
  try simp only [Act.put, List.setIfInBounds_toArray, List.set_cons_zero, List.set_cons_succ]
  refine takeAt 11 (some 74) ?_ rfl rfl (by kernel_rfl) (by kernel_rfl) (by kernel_rfl) (fun _ _ _ h => h) (Or.inl ⟨by rfl, ?_⟩) hHeld ?_
  rotate_left
  · intro w hSw
    go_simp <;> with_reducible rfl
  try simp only [Act.put, List.setIfInBounds_toArray, List.set_cons_zero, List.set_cons_succ]
  refine takeAt 13 (some 76) ?_ rfl rfl (by kernel_rfl) (by kernel_rfl) (by kernel_rfl) (fun _ _ _ h => h) (Or.inl ⟨by rfl, ?_⟩) hHeld ?_
  rotate_left
  · intro w hSw
    go_simp <;> with_reducible rfl
  try simp only [Act.put, List.setIfInBounds_toArray, List.set_cons_zero, List.set_cons_succ]
  refine takeAt 14 (some 77) ?_ rfl rfl (by kernel_rfl) (by kernel_rfl) (by kernel_rfl) (fun _ _ _ h => h) (Or.inl ⟨by rfl, ?_⟩) hHeld ?_
  rotate_left
  · intro w hSw
    go_simp <;> with_reducible rfl
  try simp only [Act.put, List.setIfInBounds_toArray, List.set_cons_zero, List.set_cons_succ]
  refine takeAt 15 (some 78) ?_ rfl rfl (by kernel_rfl) (by kernel_rfl) (by kernel_rfl) (fun _ _ _ h => h) (Or.inl ⟨by rfl, ?_⟩) hHeld ?_
  rotate_left
  · intro w hSw
    go_simp <;> with_reducible rfl
  try simp only [Act.put, List.setIfInBounds_toArray, List.set_cons_zero, List.set_cons_succ]
  refine wpAnyH_ready (rs := [12, 16]) (by kernel_rfl) (by simp) ?_
  refine AllReadyH.cons rfl (fun K hK => ?_) (AllReadyH.cons rfl (fun K hK => ?_) AllReadyH.nil)
  · go_simp
    refine hK.out _ _ hHeld (fun hHeld => ?_)
    clear hK K
    try simp only [Act.put, List.setIfInBounds_toArray, List.set_cons_zero, List.set_cons_succ]
    refine wpAnyH_ready (rs := [16]) (by kernel_rfl) (by simp) ?_
    refine AllReadyH.cons rfl (fun K hK => ?_) AllReadyH.nil
    go_simp
    refine hK.out _ _ (show Tk _ _ _ from hal) (fun hHeld => ?_)
    clear hK K
    try simp only [Act.put, List.setIfInBounds_toArray, List.set_cons_zero, List.set_cons_succ]
    refine callAt 17 80 219 (vals := #[.slice (some ⟨kb, 0, none⟩) na.kids.length kc, .int .i64 ((k : Int) + 1), .slice (some ⟨W5.heap.size, 0, none⟩) 1 1]) (by kernel_rfl) rfl rfl rfl rfl (by simp [Act.eval]) Tryz.func219 (by kernel_rfl) (by kernel_rfl) ?_
    refine (HC.out _ (by rfl) (by rfl) (by rfl) (by rfl)).mono ?_
    rintro e w6 ⟨x6, y6, rfl, p6, HF⟩
    refine ⟨_, rfl, show Tk _ _ _ from ((p6 0).2.2).trans a0, fun hHeld => ?_⟩
    have q2 := ((p6 (at_ * 4 + 1)).1).trans ca1
    have q3 := (p6 (at_ * 4 + 1)).2.1
    clear p6
    try simp only [Act.put, List.setIfInBounds_toArray, List.set_cons_zero, List.set_cons_succ]
    refine takeAt 18 (some 81) ?_ rfl rfl (by kernel_rfl) (by kernel_rfl) (by kernel_rfl) (fun _ _ _ h => h) (Or.inl ⟨by rfl, ?_⟩) hHeld ?_
    rotate_left
    · intro w hSw
      go_simp <;> with_reducible rfl
    try simp only [Act.put, List.setIfInBounds_toArray, List.set_cons_zero, List.set_cons_succ]
    refine takeAt 19 (some 82) ?_ rfl rfl (by kernel_rfl) (by kernel_rfl) (by kernel_rfl) (fun _ _ _ h => h) (Or.inl ⟨by rfl, ?_⟩) hHeld ?_
    rotate_left
    · intro w hSw
      go_simp <;> with_reducible rfl
    try simp only [Act.put, List.setIfInBounds_toArray, List.set_cons_zero, List.set_cons_succ]
    refine wpAnyH_ready (rs := [20]) (by kernel_rfl) (by simp) ?_
    refine AllReadyH.cons rfl (fun K hK => ?_) AllReadyH.nil
    go_simp
    refine hK.out _ _ (show Tk _ _ _ from ?_) (fun hHeld => ?_)
    · exact (World.cell?_setCell_other _ _ _ _ (fun e => htb (by injection e))).trans hHeld
    clear hK K
    try simp only [Act.put, List.setIfInBounds_toArray, List.set_cons_zero, List.set_cons_succ]
    refine wpAnyH_done (by kernel_rfl) ?_ _
    refine NoPanic.normal ?_
    go_wp2_with fail
    obtain ⟨o6, h6, k6⟩ := HF
    refine (FW1.out _ _ _ h6).mono ?_
    rintro e w7 ⟨rfl, h7, k7⟩
    go_wp2_with fail
    refine (FW2.out _ _ _ _ h7).mono ?_
    rintro e w8 ⟨rfl, h8, k8⟩
    go_wp2_with fail
    go_end0
    exact ⟨rfl, r, _, FIN.out _, o6, vn1, vg1, h8, (k6.trans k7).trans k8⟩
  · go_simp
    refine hK.out _ _ (show Tk _ _ _ from hal) (fun hHeld => ?_)
    clear hK K
    try simp only [Act.put, List.setIfInBounds_toArray, List.set_cons_zero, List.set_cons_succ]
    refine wpAnyH_ready (rs := [12]) (by kernel_rfl) (by simp) ?_
    refine AllReadyH.cons rfl (fun K hK => ?_) AllReadyH.nil
    go_simp
    refine hK.out _ _ hHeld (fun hHeld => ?_)
    clear hK K
    try simp only [Act.put, List.setIfInBounds_toArray, List.set_cons_zero, List.set_cons_succ]
    refine callAt 17 80 219 (vals := #[.slice (some ⟨kb, 0, none⟩) na.kids.length kc, .int .i64 ((k : Int) + 1), .slice (some ⟨W5.heap.size, 0, none⟩) 1 1]) (by kernel_rfl) rfl rfl rfl rfl (by simp [Act.eval]) Tryz.func219 (by kernel_rfl) (by kernel_rfl) ?_
    refine (HC.out _ (by rfl) (by rfl) (by rfl) (by rfl)).mono ?_
    rintro e w6 ⟨x6, y6, rfl, p6, HF⟩
    refine ⟨_, rfl, show Tk _ _ _ from ((p6 0).2.2).trans a0, fun hHeld => ?_⟩
    have q2 := ((p6 (at_ * 4 + 1)).1).trans ca1
    have q3 := (p6 (at_ * 4 + 1)).2.1
    clear p6
    try simp only [Act.put, List.setIfInBounds_toArray, List.set_cons_zero, List.set_cons_succ]
    refine takeAt 18 (some 81) ?_ rfl rfl (by kernel_rfl) (by kernel_rfl) (by kernel_rfl) (fun _ _ _ h => h) (Or.inl ⟨by rfl, ?_⟩) hHeld ?_
    rotate_left
    · intro w hSw
      go_simp <;> with_reducible rfl
    try simp only [Act.put, List.setIfInBounds_toArray, List.set_cons_zero, List.set_cons_succ]
    refine takeAt 19 (some 82) ?_ rfl rfl (by kernel_rfl) (by kernel_rfl) (by kernel_rfl) (fun _ _ _ h => h) (Or.inl ⟨by rfl, ?_⟩) hHeld ?_
    rotate_left
    · intro w hSw
      go_simp <;> with_reducible rfl
    try simp only [Act.put, List.setIfInBounds_toArray, List.set_cons_zero, List.set_cons_succ]
    refine wpAnyH_ready (rs := [20]) (by kernel_rfl) (by simp) ?_
    refine AllReadyH.cons rfl (fun K hK => ?_) AllReadyH.nil
    go_simp
    refine hK.out _ _ (show Tk _ _ _ from ?_) (fun hHeld => ?_)
    · exact (World.cell?_setCell_other _ _ _ _ (fun e => htb (by injection e))).trans hHeld
    clear hK K
    try simp only [Act.put, List.setIfInBounds_toArray, List.set_cons_zero, List.set_cons_succ]
    refine wpAnyH_done (by kernel_rfl) ?_ _
    refine NoPanic.normal ?_
    go_wp2_with fail
    obtain ⟨o6, h6, k6⟩ := HF
    refine (FW1.out _ _ _ h6).mono ?_
    rintro e w7 ⟨rfl, h7, k7⟩
    go_wp2_with fail
    refine (FW2.out _ _ _ _ h7).mono ?_
    rintro e w8 ⟨rfl, h8, k8⟩
    go_wp2_with fail
    go_end0
    exact ⟨rfl, r, _, FIN.out _, o6, vn1, vg1, h8, (k6.trans k7).trans k8⟩
end
end Go.Proofs.YtaefeakmlgjonaaGreat.Tz
/- The call join. -/
namespace Go.Proofs.YtaefeakmlgjonaaGreat.Tz
set_option maxRecDepth 100000
open Go.ChangeShapes Go.WideShapes Go.ChangeAt Go.RowKit

structure JoinTo (s : St) (at_ k left right : Nat) (na nl nr : Node) (s' : St) : Prop where
  gone : s'.gone = s.gone ++ [right]
  top : s'.top = s.top
  len : s'.ns.length = s.ns.length
  rest : ∀ j, j ≠ at_ → j ≠ left → j ≠ right → s'.ns[j]? = s.ns[j]?
  R : s'.ns[right]? = some nilNode
  L : ∃ v u, s'.ns[left]? = some ⟨v, u, nl.lines ++ nr.lines, nl.kids ++ nr.kids, (nl.lines ++ nr.lines).length + ((nl.kids ++ nr.kids).map s.cnt).sum, sizes (nl.lines ++ nr.lines) + ((nl.kids ++ nr.kids).map s.byt).sum⟩ ∧ (nl.lines ++ nr.lines = [] → v = .slice none 0 0) ∧ (nl.kids ++ nr.kids = [] → u = .slice none 0 0)
  A : ∃ u, u.ownBlock = na.vk.ownBlock ∧ s'.ns[at_]? = some { na with vk := u, kids := na.kids.take (k + 1) ++ na.kids.drop (k + 2) }
section
variable {o : Own} {w : World} {t : Nat} {s : St} {vn vg : Value}

set_option maxHeartbeats 4000000 in
theorem join_leaf (h : Rep o w t s vn vg) {at_ k left right : Nat} {na nl nr : Node}
    (hat : s.ns[at_]? = some na) (hk : na.kids[k]? = some left) (hk' : na.kids[k + 1]? = some right) (hl : s.ns[left]? = some nl) (hr : s.ns[right]? = some nr) (hla : left ≠ at_) (hra : right ≠ at_) (hrl : right ≠ left)
    (hc1 : nl.vk = .slice none 0 0) (hc2 : nr.vk = .slice none 0 0) (hkl0 : nl.kids = []) (hkr0 : nr.kids = []) (hrp : 0 < nr.lines.length)
    (hb2 : sizes (nl.lines ++ nr.lines) < 2 ^ 62) (hb3 : nl.lines.length < 400000000 ∧ nr.lines.length < 400000000 ∧ na.kids.length < 400000000 ∧ s.gone.length < 400000000) :
    Calls Tryz.prog 216 #[.pointer (some ⟨t, 0, none⟩), .int .i64 at_, .int .i64 k] w fun e w' => e = .returned (.tuple #[]) ∧ ∃ s', JoinTo s at_ k left right na nl nr s' ∧ Did o w t s' w' := by
  have lA : at_ < s.ns.length := (List.getElem?_eq_some_iff.1 hat).1
  have lL : left < s.ns.length := (List.getElem?_eq_some_iff.1 hl).1
  have lR : right < s.ns.length := (List.getElem?_eq_some_iff.1 hr).1
  obtain ⟨b, cap, hvn, hob, n1, n2, hcc⟩ := h.nodeCells (by omega)
  clear hcc
  obtain ⟨a0, cl0, cl1, cl2, cl3, cf⟩ := h.cellsAt hl hvn
  obtain ⟨zz1, cr0, cr1, cr2, cr3, zz2⟩ := h.cellsAt hr hvn
  obtain ⟨zz3, ca0, ca1, ca2, ca3, zz4⟩ := h.cellsAt hat hvn
  clear zz1 zz2 zz3 zz4
  have hkl := (List.getElem?_eq_some_iff.1 hk).1
  have hkl1 := (List.getElem?_eq_some_iff.1 hk').1
  obtain ⟨kb, kc, hvk, hko, hk1, hk2, hkc⟩ := kidsCells h hat (by simp) (by omega)
  have kc0 := (hkc k left hk).1
  have kc1 := (hkc (k + 1) right hk').1
  obtain ⟨la, lc, hvl, l1, l2⟩ := (h.lines left nl hl (by simp)).form
  obtain ⟨rb, rc, hvr, hro, r1, r2, hrc⟩ := linesCells h hr (by simp) hrp
  rw [hvl] at cl0
  rw [hvr] at cr0
  rw [hvk] at ca1
  rw [hc1] at cl1
  rw [hc2] at cr1
  rw [hvn] at a0
  have H0 : Hid (Rep o w t s vn vg) := h
  obtain ⟨N, hN⟩ : ∃ N, s.ns.length = N := ⟨_, rfl⟩
  have HN : Hid (s.ns.length = N) := hN
  have GV : Hid (vn = .slice (some ⟨b, 0, none⟩) s.ns.length cap) := hvn
  have GK : Hid (na.vk = .slice (some ⟨kb, 0, none⟩) na.kids.length kc) := hvk
  have GL : Hid (nl.vl = .slice la nl.lines.length lc) := hvl
  have GR : Hid (nr.vl = .slice (some ⟨rb, 0, none⟩) nr.lines.length rc) := hvr
  have GS : Hid (s.ns[at_]? = some na ∧ s.ns[left]? = some nl ∧ s.ns[right]? = some nr ∧ na.kids[k]? = some left ∧ na.kids[k + 1]? = some right) := ⟨hat, hl, hr, hk, hk'⟩
  have GC : Hid (nl.vk = .slice none 0 0 ∧ nr.vk = .slice none 0 0 ∧ nl.kids = [] ∧ nr.kids = []) := ⟨hc1, hc2, hkl0, hkr0⟩
  have GN : Hid (∀ j u, (strs nr.lines)[j]? = some u → w.cell? ((⟨rb, 0, none⟩ : Addr).add j) = some u) := by
    intro j u hj
    rw [Addr.add_lit, Nat.zero_add]
    simp only [strs, List.getElem?_map, Option.map_eq_some_iff] at hj
    obtain ⟨y, hy, rfl⟩ := hj
    exact (hrc j y hy).1
  have GO : Hid (∀ u ∈ strs nr.lines, u.oneCell' = true) := strs_one _
  have GB : Hid (sizes (nl.lines ++ nr.lines) < 2 ^ 62) := hb2
  rw [hN] at a0 n1 lA lL lR
  unfold maxLen at n2 hk2 l2 r2
  clear h hat hk hk' hl hr hc1 hc2 hkl0 hkr0 hvn hvk hvl hvr hkc hrc hN hb2
  obtain ⟨i9, hi9, z0, z1, z2⟩ := info_parts info9
  go_enter Tryz.func216, Tryz.ntmps216
  go_wp2_with fail
  go_quiet (fail)
  generalize nq = q1
  go_wp2_with fail
  go_quiet (fail)
  go_wp2_with fail
  obtain ⟨W1, hW1⟩ : ∃ W1, (w.drewN q1).drewN nq = W1 := ⟨_, rfl⟩
  rw [hW1]
  have HR1 : Hid (Rep o W1 t s vn vg ∧ Keeps o o w W1) := by rw [← hW1]; exact ⟨(H0.out.drewN q1).drewN nq, ((Keeps.refl o w).drewN' q1).drewN' nq⟩
  have b1 : W1.cell? ⟨b, left * 4, none⟩ = some (.slice la nl.lines.length lc) := by rw [← hW1]; simpa using cl0
  have b2 : W1.cell? ⟨b, right * 4, none⟩ = some (.slice (some ⟨rb, 0, none⟩) nr.lines.length rc) := by rw [← hW1]; simpa using cr0
  have b3 : ∀ j, W1.frozen? ⟨b, j, none⟩ = false := fun j => by rw [← hW1]; simpa using cf j
  have GN1 : Hid (∀ j u, (strs nr.lines)[j]? = some u → W1.drew.cell? ((⟨rb, 0, none⟩ : Addr).add j) = some u) := by
    intro j u hj; have := GN.out j u hj; rw [← hW1]; simpa using this
  have GW1 : Hid (W1.drew.ownsRow 0 9 1 (.slice la nl.lines.length lc) nl.lines.length (strs nl.lines)) := by
    have := (HR1.out.1.drew.lines left nl GS.out.2.1 (by simp)).1; rw [GL.out] at this; exact this
  have GA1 : Hid (∀ (g cp : Nat) (w1 : World), w1.ownsRow 0 9 1 (.slice (some ⟨g, 0, none⟩) (nl.lines.length + nr.lines.length) cp) (nl.lines.length + nr.lines.length) (strs nl.lines ++ strs nr.lines) → W1.drew.grownBy w1 (Value.slice la nl.lines.length lc).ownBlock →
      ((Value.slice la nl.lines.length lc).ownBlock = some g ∨ g = W1.heap.size) → g < w1.heap.size → (w1.cell? ⟨b, left * 4, none⟩ = some (.slice la nl.lines.length lc) ∧ w1.frozen? ⟨b, left * 4, none⟩ = false) ∧ ∃ o2, Rep o2 (w1.setCell ⟨b, left * 4, none⟩ (.slice (some ⟨g, 0, none⟩) (nl.lines.length + nr.lines.length) cp)) t (s.put left { nl with vl := .slice (some ⟨g, 0, none⟩) (nl.lines.length + nr.lines.length) cp, lines := nl.lines ++ nr.lines }) vn vg ∧
        Keeps o o2 w (w1.setCell ⟨b, left * 4, none⟩ (.slice (some ⟨g, 0, none⟩) (nl.lines.length + nr.lines.length) cp))) := by
    intro g cp w1 hown hgrow hat hlt
    have hd := HR1.out.1.drew
    have hrow := hd.lines left nl GS.out.2.1 (by simp)
    rw [GL.out] at hrow
    obtain ⟨o2, hr2, kb2⟩ := hrow.grown hd.lt hown hgrow hat hlt
    have hobN : o b = .nodes := hd.nodes.2 b (by rw [GV.out]; rfl)
    have hbl : b < W1.heap.size := hd.lt b (by rw [hobN]; simp)
    have heb : w1.heap[b]? = W1.heap[b]? := kb2.block b hbl (by rw [hobN]; simp)
    refine ⟨⟨by simp only [World.cell?, heb]; exact b1, by have := b3 (left * 4); simp only [World.frozen?, heb] at this ⊢; exact this⟩, o2, ?_, ?_⟩
    · have x1 := (RepX.open_ hd (.lines left)).kb kb2 (by simp) (by simp) (by simp)
      exact x1.storeL (.inl rfl) GS.out.2.1 GV.out (by simpa [strs] using hr2)
    · exact ((HR1.out.2.drew).trans (kb2.keeps (by simp))).setCell (by rw [kb2.keep b hbl (by rw [hobN]; simp), hobN]; simp)
  have HW1 : Hid ((w.drewN q1).drewN nq = W1) := hW1
  have gl0 : (strs nr.lines).length = nr.lines.length * 1 := by simp [strs]
  have gl : Hid ((strs nr.lines).length = nr.lines.length * 1) := gl0
  clear gl0
  clear hW1
  go_region_law ((refine step_append_lies _ (by rfl) (.tmp 49) (.tmp 53) 22 (by rfl) 0 9 i9 _ 1 16 Tryz.underlying22 hi9 z0 z1 z2 rfl (by decide) (.slice la nl.lines.length lc) nl.lines.length (strs nl.lines) (by rfl) GW1.out ⟨rb, 0, none⟩ nr.lines.length rc (strs nr.lines) (by rfl) gl.out GN1.out GO.out hrp (by unfold maxLen; omega) (by omega) (Nat.zero_le _) W1.heap.size (by simp) ?_; intro g cp w1 hown hgrow hat hlt; obtain ⟨⟨q0, qf⟩, HF⟩ := GA1.out g cp w1 hown hgrow hat hlt; clear hown hgrow hat))
  all_goals
    obtain ⟨o2, h2, k2⟩ := HF
    obtain ⟨W2, hW2⟩ : ∃ W2, w1.setCell ⟨b, left * 4, none⟩ (.slice (some ⟨g, 0, none⟩) (nl.lines.length + nr.lines.length) cp) = W2 := ⟨_, rfl⟩
    rw [hW2] at h2 k2
    go_wp2_with fail
    rw [hW2]
    have gL : (s.put left { nl with vl := .slice (some ⟨g, 0, none⟩) (nl.lines.length + nr.lines.length) cp, lines := nl.lines ++ nr.lines }).ns[left]? = some { nl with vl := .slice (some ⟨g, 0, none⟩) (nl.lines.length + nr.lines.length) cp, lines := nl.lines ++ nr.lines } := put_same _ (by rw [HN.out]; exact lL)
    have gR : (s.put left { nl with vl := .slice (some ⟨g, 0, none⟩) (nl.lines.length + nr.lines.length) cp, lines := nl.lines ++ nr.lines }).ns[right]? = some nr := by rw [put_ne _ hrl]; exact GS.out.2.2.1
    obtain ⟨y0, y1, y2, y3, y4, yf⟩ := h2.cellsAt gL GV.out
    obtain ⟨u0, u1, u2, u3, u4, uf⟩ := h2.cellsAt gR GV.out
    have d1 : W2.cell? ⟨b, left * 4 + 1, none⟩ = some (.slice none 0 0) := by rw [y2]; show some nl.vk = _; rw [GC.out.1]
    have d2 : W2.cell? ⟨b, right * 4 + 1, none⟩ = some (.slice none 0 0) := by rw [u2, GC.out.2.1]
    have HR2 : Hid (Rep o2 W2 t (s.put left { nl with vl := .slice (some ⟨g, 0, none⟩) (nl.lines.length + nr.lines.length) cp, lines := nl.lines ++ nr.lines }) vn vg ∧ Keeps o o2 w W2) := ⟨h2, k2⟩
    clear y0 y1 y2 y3 y4 u0 u1 u2 u3 u4 uf h2 k2 gL gR hW2 b1 b2 b3 a0 cl0 cl1 cl2 cl3 cf cr0 cr1 cr2 cr3 ca0 ca1 ca2 ca3 q0 qf
    go_region
    all_goals go_wp2_with fail
    obtain ⟨W3, hW3⟩ : ∃ W3, (W2.setCell ⟨b, left * 4 + 1, none⟩ (.slice none 0 0)).drew = W3 := ⟨_, rfl⟩
    rw [hW3]
    have lJ : (s.put left ⟨.slice (some ⟨g, 0, none⟩) (nl.lines.length + nr.lines.length) cp, .slice none 0 0, nl.lines ++ nr.lines, [], nl.count, nl.bytes⟩).ns[left]? = some ⟨.slice (some ⟨g, 0, none⟩) (nl.lines.length + nr.lines.length) cp, .slice none 0 0, nl.lines ++ nr.lines, [], nl.count, nl.bytes⟩ := put_same _ (by rw [HN.out]; exact lL)
    have lT : (s.put left ⟨.slice (some ⟨g, 0, none⟩) (nl.lines.length + nr.lines.length) cp, .slice none 0 0, nl.lines ++ nr.lines, [], nl.count, nl.bytes⟩).ns[at_]? = some na := by rw [put_ne _ (Ne.symm hla)]; exact GS.out.1
    have lQ : (s.put left ⟨.slice (some ⟨g, 0, none⟩) (nl.lines.length + nr.lines.length) cp, .slice none 0 0, nl.lines ++ nr.lines, [], nl.count, nl.bytes⟩).ns[right]? = some nr := by rw [put_ne _ hrl]; exact GS.out.2.2.1
    have HR3 : Hid (Rep o2 W3 t (s.put left ⟨.slice (some ⟨g, 0, none⟩) (nl.lines.length + nr.lines.length) cp, .slice none 0 0, nl.lines ++ nr.lines, [], nl.count, nl.bytes⟩) vn vg ∧ Keeps o o2 w W3) := by
      have x := HR2.out.1.storeK (v := .slice none 0 0) (l := []) (.inr rfl) (put_same _ (by rw [HN.out]; exact lL)) GV.out rnil
      rw [put_put] at x
      rw [← hW3]
      exact ⟨x.drew, (HR2.out.2.setCell (HR2.out.1.ob GV.out)).drew⟩
    have HL3 : Hid ((s.put left ⟨.slice (some ⟨g, 0, none⟩) (nl.lines.length + nr.lines.length) cp, .slice none 0 0, nl.lines ++ nr.lines, [], nl.count, nl.bytes⟩).ns[left]? = some ⟨.slice (some ⟨g, 0, none⟩) (nl.lines.length + nr.lines.length) cp, .slice none 0 0, nl.lines ++ nr.lines, [], nl.count, nl.bytes⟩ ∧ (s.put left ⟨.slice (some ⟨g, 0, none⟩) (nl.lines.length + nr.lines.length) cp, .slice none 0 0, nl.lines ++ nr.lines, [], nl.count, nl.bytes⟩).ns[at_]? = some na ∧ (s.put left ⟨.slice (some ⟨g, 0, none⟩) (nl.lines.length + nr.lines.length) cp, .slice none 0 0, nl.lines ++ nr.lines, [], nl.count, nl.bytes⟩).ns[right]? = some nr) := ⟨lJ, lT, lQ⟩
    clear hW3 lJ lT lQ HR2 d1 d2 yf
    obtain ⟨a0, ca0, ca1, ca2, ca3, cf⟩ := HR3.out.1.cellsAt HL3.out.2.1 GV.out
    rw [GV.out, HN.out] at a0
    rw [GK.out] at ca1
    clear ca0 ca2 ca3
    have hw1 : IntKind.i64.wrap ((k : Int) + 1) = (k : Int) + 1 := by rw [IntKind.wrap_i64]; omega
    have hw2 : IntKind.i64.wrap ((k : Int) + 2) = (k : Int) + 2 := by rw [IntKind.wrap_i64]; omega
    have hbN : o2 b = .nodes := HR3.out.1.nodes.2 b (by rw [GV.out]; rfl)
    have htb : b ≠ t := by intro e; rw [e, HR3.out.1.ot] at hbN; cases hbN
    have hbl : b < W3.heap.size := HR3.out.1.lt b (by rw [hbN]; simp)
    have HC : Hid (∀ W : World, W.heap = W3.heap → W.os = W3.os → W.tape = W3.tape → W.output = W3.output → Calls Tryz.prog 222 #[.slice (some ⟨kb, 0, none⟩) na.kids.length kc, .int .i64 ((k : Int) + 1), .int .i64 ((k : Int) + 2)] W fun e w' =>
        ∃ x6 y6, e = .returned (.slice x6 (na.kids.length - 1) y6) ∧ (Value.slice x6 (na.kids.length - 1) y6).ownBlock = na.vk.ownBlock ∧ (∀ j, w'.cell? ⟨b, j, none⟩ = W3.cell? ⟨b, j, none⟩ ∧ w'.frozen? ⟨b, j, none⟩ = false ∧ w'.cell? ⟨t, j, none⟩ = W3.cell? ⟨t, j, none⟩) ∧
          Rep o2 (w'.setCell ⟨b, at_ * 4 + 1, none⟩ (.slice x6 (na.kids.length - 1) y6)) t ((s.put left ⟨.slice (some ⟨g, 0, none⟩) (nl.lines.length + nr.lines.length) cp, .slice none 0 0, nl.lines ++ nr.lines, [], nl.count, nl.bytes⟩).put at_ { na with vk := .slice x6 (na.kids.length - 1) y6, kids := na.kids.take (k + 1) ++ na.kids.drop (k + 2) }) vn vg ∧
          Keeps o o2 w (w'.setCell ⟨b, at_ * 4 + 1, none⟩ (.slice x6 (na.kids.length - 1) y6))) := by
      intro W e1 e2 e3 e4
      have hr0 : Rep o2 W t (s.put left ⟨.slice (some ⟨g, 0, none⟩) (nl.lines.length + nr.lines.length) cp, .slice none 0 0, nl.lines ++ nr.lines, [], nl.count, nl.bytes⟩) vn vg := HR3.out.1.heap e1
      have hk0 : Keeps o o2 w W := by
        have := HR3.out.2
        exact ⟨e2.trans this.os, e3.trans this.tape, e4.trans this.output, by rw [e1]; exact this.size, fun j hj hf => by rw [e1]; exact this.block j hj hf, this.own⟩
      have hrow := hr0.kids at_ na HL3.out.2.1 (by simp)
      rw [GK.out] at hrow
      have hc := delI_any (i := k + 1) (j := k + 2) hrow hr0.lt (by simp) (by omega) (by omega)
      have ek : (((k + 1 : Nat)) : Int) = (k : Int) + 1 := by omega
      have ek2 : (((k + 2 : Nat)) : Int) = (k : Int) + 2 := by omega
      rw [ek, ek2] at hc
      refine hc.mono ?_
      rintro e w' ⟨v', rfl, hvb, hr6, kb6⟩
      have en : na.kids.length - (k + 2 - (k + 1)) = na.kids.length - 1 := by omega
      rw [en] at hr6
      obtain ⟨x6, y6, rfl, _, _⟩ := hr6.form
      have hb6 : w'.heap[b]? = W3.heap[b]? := by rw [kb6.block b (by rw [e1]; exact hbl) (by rw [hbN]; simp), e1]
      have ht6 : w'.heap[t]? = W3.heap[t]? := by rw [kb6.block t hr0.tlt (by rw [hr0.ot]; simp), e1]
      refine ⟨x6, y6, rfl, by rw [GK.out]; exact hvb, fun j => ⟨by simp [World.cell?, hb6], ?_, by simp [World.cell?, ht6]⟩, ?_⟩
      · have : w'.frozen? ⟨b, j, none⟩ = W3.frozen? ⟨b, j, none⟩ := by simp [World.frozen?, hb6]
        rw [this]; exact cf j
      · have x1 := (RepX.open_ hr0 (.kids at_)).kb kb6 (by simp) (by simp) (by simp)
        have hlen : (na.kids.take (k + 1) ++ na.kids.drop (k + 2)).length = na.kids.length - 1 := by simp; omega
        have x2 := x1.storeK (l := na.kids.take (k + 1) ++ na.kids.drop (k + 2)) (.inl rfl) HL3.out.2.1 GV.out (by rw [hlen]; exact hr6)
        exact ⟨x2, (hk0.trans (kb6.keeps (by simp))).setCell (x2.ob GV.out)⟩
    have FIN : Hid (∀ u v c d X, u.ownBlock = na.vk.ownBlock → X = .slice none 0 0 → JoinTo s at_ k left right na nl nr { ((((s.put left ⟨.slice (some ⟨g, 0, none⟩) (nl.lines.length + nr.lines.length) cp, .slice none 0 0, nl.lines ++ nr.lines, [], nl.count, nl.bytes⟩).put at_ { na with vk := u, kids := na.kids.take (k + 1) ++ na.kids.drop (k + 2) }).put right nilNode).put left ⟨v, X, nl.lines ++ nr.lines, [], c, d⟩) with gone := s.gone ++ [right] } ∨ ¬ (c = (nl.lines ++ nr.lines).length ∧ d = sizes (nl.lines ++ nr.lines))) := by
      intro u v c d X hu hX
      by_cases hcd : c = (nl.lines ++ nr.lines).length ∧ d = sizes (nl.lines ++ nr.lines)
      · left
        obtain ⟨rfl, rfl⟩ := hcd
        refine ⟨rfl, rfl, ?_, ?_, ?_, ⟨v, X, ?_, fun e => absurd (List.append_eq_nil_iff.1 e).2 (List.ne_nil_of_length_pos hrp), fun _ => hX⟩, ⟨u, hu, ?_⟩⟩
        · show (((((s.put left ⟨.slice (some ⟨g, 0, none⟩) (nl.lines.length + nr.lines.length) cp, .slice none 0 0, nl.lines ++ nr.lines, [], nl.count, nl.bytes⟩).put at_ { na with vk := u, kids := na.kids.take (k + 1) ++ na.kids.drop (k + 2) }).put right nilNode).put left _).ns.length) = _
          rw [put_len, put_len, put_len, put_len]
        · intro j h1 h2 h3
          show ((((s.put left ⟨.slice (some ⟨g, 0, none⟩) (nl.lines.length + nr.lines.length) cp, .slice none 0 0, nl.lines ++ nr.lines, [], nl.count, nl.bytes⟩).put at_ { na with vk := u, kids := na.kids.take (k + 1) ++ na.kids.drop (k + 2) }).put right nilNode).put left _).ns[j]? = _
          rw [put_ne _ h2, put_ne _ h3, put_ne _ h1, put_ne _ h2]
        · show ((((s.put left ⟨.slice (some ⟨g, 0, none⟩) (nl.lines.length + nr.lines.length) cp, .slice none 0 0, nl.lines ++ nr.lines, [], nl.count, nl.bytes⟩).put at_ { na with vk := u, kids := na.kids.take (k + 1) ++ na.kids.drop (k + 2) }).put right nilNode).put left _).ns[right]? = _
          rw [put_ne _ hrl]; exact put_same _ (by rw [put_len, put_len, HN.out]; exact lR)
        · show ((((s.put left ⟨.slice (some ⟨g, 0, none⟩) (nl.lines.length + nr.lines.length) cp, .slice none 0 0, nl.lines ++ nr.lines, [], nl.count, nl.bytes⟩).put at_ { na with vk := u, kids := na.kids.take (k + 1) ++ na.kids.drop (k + 2) }).put right nilNode).put left _).ns[left]? = _
          rw [put_same _ (by rw [put_len, put_len, put_len, HN.out]; exact lL), GC.out.2.2.1, GC.out.2.2.2]; simp
        · show ((((s.put left ⟨.slice (some ⟨g, 0, none⟩) (nl.lines.length + nr.lines.length) cp, .slice none 0 0, nl.lines ++ nr.lines, [], nl.count, nl.bytes⟩).put at_ { na with vk := u, kids := na.kids.take (k + 1) ++ na.kids.drop (k + 2) }).put right nilNode).put left _).ns[at_]? = _
          rw [put_ne _ (Ne.symm hla), put_ne _ (Ne.symm hra)]; exact put_same _ (by rw [put_len, HN.out]; exact lA)
      · exact .inr hcd
    have rule : ∀ w', Tk t (.slice (some ⟨b, 0, none⟩) N cap) w' → w'.cell? ⟨t, 0, none⟩ = some (.slice (some ⟨b, 0, none⟩) N cap) := fun _ h => h
    refine wp_region_noPanic ?_
    refine wp_region_held_drew (S := Tk t (.slice (some ⟨b, 0, none⟩) N cap)) (by kernel_rfl) (a0) (fun hHeld => ?_)
    refine takeAt 0 (some 69) ?_ rfl rfl (by kernel_rfl) (by kernel_rfl) (by kernel_rfl) (fun _ _ _ h => h) (Or.inl ⟨by rfl, ?_⟩) hHeld ?_
    rotate_left
    · intro w hSw
      go_simp <;> with_reducible rfl
    try simp only [Act.put, List.setIfInBounds_toArray, List.set_cons_zero, List.set_cons_succ]
    refine takeAt 1 (some 70) ?_ rfl rfl (by kernel_rfl) (by kernel_rfl) (by kernel_rfl) (fun _ _ _ h => h) (Or.inl ⟨by rfl, ?_⟩) hHeld ?_
    rotate_left
    · intro w hSw
      go_simp <;> with_reducible rfl
    try simp only [Act.put, List.setIfInBounds_toArray, List.set_cons_zero, List.set_cons_succ]
    refine takeAt 2 (some 71) ?_ rfl rfl (by kernel_rfl) (by kernel_rfl) (by kernel_rfl) (fun _ _ _ h => h) (Or.inl ⟨by rfl, ?_⟩) hHeld ?_
    rotate_left
    · intro w hSw
      go_simp <;> with_reducible rfl
    try simp only [Act.put, List.setIfInBounds_toArray, List.set_cons_zero, List.set_cons_succ]
    refine takeAt 3 (some 72) ?_ rfl rfl (by kernel_rfl) (by kernel_rfl) (by kernel_rfl) (fun _ _ _ h => h) (Or.inl ⟨by rfl, ?_⟩) hHeld ?_
    rotate_left
    · intro w hSw
      go_simp <;> with_reducible rfl
    try simp only [Act.put, List.setIfInBounds_toArray, List.set_cons_zero, List.set_cons_succ]
    refine takeAt 4 (some 73) ?_ rfl rfl (by kernel_rfl) (by kernel_rfl) (by kernel_rfl) (fun _ _ _ h => h) (Or.inl ⟨by rfl, ?_⟩) hHeld ?_
    rotate_left
    · intro w hSw
      go_simp <;> with_reducible rfl
    try simp only [Act.put, List.setIfInBounds_toArray, List.set_cons_zero, List.set_cons_succ]
    refine takeAt 5 (some 74) ?_ rfl rfl (by kernel_rfl) (by kernel_rfl) (by kernel_rfl) (fun _ _ _ h => h) (Or.inl ⟨by rfl, ?_⟩) hHeld ?_
    rotate_left
    · intro w hSw
      go_simp <;> with_reducible rfl
    try simp only [Act.put, List.setIfInBounds_toArray, List.set_cons_zero, List.set_cons_succ]
    refine takeAt 6 (some 75) ?_ rfl rfl (by kernel_rfl) (by kernel_rfl) (by kernel_rfl) (fun _ _ _ h => h) (Or.inl ⟨by rfl, ?_⟩) hHeld ?_
    rotate_left
    · intro w hSw
      go_simp <;> with_reducible rfl
    try simp only [Act.put, List.setIfInBounds_toArray, List.set_cons_zero, List.set_cons_succ]
    refine takeAt 7 (some 76) ?_ rfl rfl (by kernel_rfl) (by kernel_rfl) (by kernel_rfl) (fun _ _ _ h => h) (Or.inl ⟨by rfl, ?_⟩) hHeld ?_
    rotate_left
    · intro w hSw
      go_simp <;> with_reducible rfl
    try simp only [Act.put, List.setIfInBounds_toArray, List.set_cons_zero, List.set_cons_succ]
    refine takeAt 8 (some 77) ?_ rfl rfl (by kernel_rfl) (by kernel_rfl) (by kernel_rfl) (fun _ _ _ h => h) (Or.inl ⟨by rfl, ?_⟩) hHeld ?_
    rotate_left
    · intro w hSw
      go_simp <;> with_reducible rfl
    try simp only [Act.put, List.setIfInBounds_toArray, List.set_cons_zero, List.set_cons_succ]
    refine takeAt 9 (some 78) ?_ rfl rfl (by kernel_rfl) (by kernel_rfl) (by kernel_rfl) (fun _ _ _ h => h) (Or.inl ⟨by rfl, ?_⟩) hHeld ?_
    rotate_left
    · intro w hSw
      go_simp <;> with_reducible rfl
    try simp only [Act.put, List.setIfInBounds_toArray, List.set_cons_zero, List.set_cons_succ]
    refine takeAt 10 (some 79) ?_ rfl rfl (by kernel_rfl) (by kernel_rfl) (by kernel_rfl) (fun _ _ _ h => h) (Or.inl ⟨by rfl, ?_⟩) hHeld ?_
    rotate_left
    · intro w hSw
      go_simp <;> with_reducible rfl
    try simp only [Act.put, List.setIfInBounds_toArray, List.set_cons_zero, List.set_cons_succ]
    refine takeAt 11 (some 80) ?_ rfl rfl (by kernel_rfl) (by kernel_rfl) (by kernel_rfl) (fun _ _ _ h => h) (Or.inl ⟨by rfl, ?_⟩) hHeld ?_
    rotate_left
    · intro w hSw
      go_simp <;> with_reducible rfl
    try simp only [Act.put, List.setIfInBounds_toArray, List.set_cons_zero, List.set_cons_succ]
    refine takeAt 13 (some 82) ?_ rfl rfl (by kernel_rfl) (by kernel_rfl) (by kernel_rfl) (fun _ _ _ h => h) (Or.inl ⟨by rfl, ?_⟩) hHeld ?_
    rotate_left
    · intro w hSw
      go_simp <;> with_reducible rfl
    try simp only [Act.put, List.setIfInBounds_toArray, List.set_cons_zero, List.set_cons_succ]
    refine takeAt 14 (some 83) ?_ rfl rfl (by kernel_rfl) (by kernel_rfl) (by kernel_rfl) (fun _ _ _ h => h) (Or.inl ⟨by rfl, ?_⟩) hHeld ?_
    rotate_left
    · intro w hSw
      go_simp <;> with_reducible rfl
    try simp only [Act.put, List.setIfInBounds_toArray, List.set_cons_zero, List.set_cons_succ]
    refine takeAt 15 (some 84) ?_ rfl rfl (by kernel_rfl) (by kernel_rfl) (by kernel_rfl) (fun _ _ _ h => h) (Or.inl ⟨by rfl, ?_⟩) hHeld ?_
    rotate_left
    · intro w hSw
      go_simp <;> with_reducible rfl
    try simp only [Act.put, List.setIfInBounds_toArray, List.set_cons_zero, List.set_cons_succ]
    refine takeAt 16 (some 85) ?_ rfl rfl (by kernel_rfl) (by kernel_rfl) (by kernel_rfl) (fun _ _ _ h => h) (Or.inl ⟨by rfl, ?_⟩) hHeld ?_
    rotate_left
    · intro w hSw
      go_simp <;> with_reducible rfl
    try simp only [Act.put, List.setIfInBounds_toArray, List.set_cons_zero, List.set_cons_succ]
    refine wpAnyH_ready (rs := [12]) (by kernel_rfl) (by simp) ?_
    refine AllReadyH.cons rfl (fun K hK => ?_) AllReadyH.nil
    go_simp
    refine hK.out _ _ hHeld (fun hHeld => ?_)
    clear hK K
    try simp only [Act.put, List.setIfInBounds_toArray, List.set_cons_zero, List.set_cons_succ]
    refine callAt 17 86 222 (vals := #[.slice (some ⟨kb, 0, none⟩) na.kids.length kc, .int .i64 ((k : Int) + 1), .int .i64 ((k : Int) + 2)]) (by kernel_rfl) rfl rfl rfl rfl (by simp [Act.eval]) Tryz.func222 (by kernel_rfl) (by kernel_rfl) ?_
    refine (HC.out _ (by rfl) (by rfl) (by rfl) (by rfl)).mono ?_
    rintro e w6 ⟨x6, y6, rfl, hvb6, p6, h6, k6⟩
    refine ⟨_, rfl, show Tk _ _ _ from ((p6 0).2.2).trans a0, fun hHeld => ?_⟩
    have q2 := ((p6 (at_ * 4 + 1)).1).trans ca1
    have q3 := (p6 (at_ * 4 + 1)).2.1
    clear p6
    try simp only [Act.put, List.setIfInBounds_toArray, List.set_cons_zero, List.set_cons_succ]
    refine takeAt 18 (some 87) ?_ rfl rfl (by kernel_rfl) (by kernel_rfl) (by kernel_rfl) (fun _ _ _ h => h) (Or.inl ⟨by rfl, ?_⟩) hHeld ?_
    rotate_left
    · intro w hSw
      go_simp <;> with_reducible rfl
    try simp only [Act.put, List.setIfInBounds_toArray, List.set_cons_zero, List.set_cons_succ]
    refine takeAt 19 (some 88) ?_ rfl rfl (by kernel_rfl) (by kernel_rfl) (by kernel_rfl) (fun _ _ _ h => h) (Or.inl ⟨by rfl, ?_⟩) hHeld ?_
    rotate_left
    · intro w hSw
      go_simp <;> with_reducible rfl
    try simp only [Act.put, List.setIfInBounds_toArray, List.set_cons_zero, List.set_cons_succ]
    refine wpAnyH_ready (rs := [20]) (by kernel_rfl) (by simp) ?_
    refine AllReadyH.cons rfl (fun K hK => ?_) AllReadyH.nil
    go_simp
    refine hK.out _ _ (show Tk _ _ _ from ?_) (fun hHeld => ?_)
    · exact (World.cell?_setCell_other _ _ _ _ (fun e => htb (by injection e))).trans hHeld
    clear hK K
    try simp only [Act.put, List.setIfInBounds_toArray, List.set_cons_zero, List.set_cons_succ]
    refine wpAnyH_done (by kernel_rfl) ?_ _
    refine NoPanic.normal ?_
    go_wp2_with fail
    have HL5 : ((s.put left ⟨.slice (some ⟨g, 0, none⟩) (nl.lines.length + nr.lines.length) cp, .slice none 0 0, nl.lines ++ nr.lines, [], nl.count, nl.bytes⟩).put at_ { na with vk := .slice x6 (na.kids.length - 1) y6, kids := na.kids.take (k + 1) ++ na.kids.drop (k + 2) }).ns[right]? = some nr := by rw [put_ne _ hra]; exact HL3.out.2.2
    refine (drop_any h6 HL5 (by show s.gone.length < _; omega)).mono ?_
    rintro e w7 ⟨rfl, o7, vn7, vg7, h7, k7⟩
    go_wp2_with fail
    have HL7 : (((s.put left ⟨.slice (some ⟨g, 0, none⟩) (nl.lines.length + nr.lines.length) cp, .slice none 0 0, nl.lines ++ nr.lines, [], nl.count, nl.bytes⟩).put at_ { na with vk := .slice x6 (na.kids.length - 1) y6, kids := na.kids.take (k + 1) ++ na.kids.drop (k + 2) }).put right nilNode).ns[left]? = some ⟨.slice (some ⟨g, 0, none⟩) (nl.lines.length + nr.lines.length) cp, .slice none 0 0, nl.lines ++ nr.lines, [], nl.count, nl.bytes⟩ := by rw [put_ne _ (Ne.symm hrl), put_ne _ hla]; exact HL3.out.1
    refine (weigh_any h7 HL7 (fun c hc => by cases hc) (by show (nl.lines ++ nr.lines).length + 0 < _; simp; omega) (by show sizes (nl.lines ++ nr.lines) + 0 < _; have := GB.out; omega)).mono ?_
    rintro e w8 ⟨rfl, h8, k8⟩
    go_wp2_with fail
    go_end0
    refine ⟨rfl, _, ?_, o7, _, _, h8, (k6.trans k7).trans k8⟩
    rcases FIN.out (.slice x6 (na.kids.length - 1) y6) (.slice (some ⟨g, 0, none⟩) (nl.lines.length + nr.lines.length) cp) (nl.lines ++ nr.lines).length (sizes (nl.lines ++ nr.lines)) (.slice none 0 0) hvb6 rfl with h | h
    · exact h
    · exact absurd ⟨rfl, rfl⟩ h
end
end Go.Proofs.YtaefeakmlgjonaaGreat.Tz
/- The call join, of two inner nodes. -/
namespace Go.Proofs.YtaefeakmlgjonaaGreat.Tz
set_option maxRecDepth 100000
open Go.ChangeShapes Go.WideShapes Go.ChangeAt Go.RowKit
section
variable {o : Own} {w : World} {t : Nat} {s : St} {vn vg : Value}

set_option maxHeartbeats 4000000 in
theorem join_inner (h : Rep o w t s vn vg) {at_ k left right : Nat} {na nl nr : Node}
    (hat : s.ns[at_]? = some na) (hk : na.kids[k]? = some left) (hk' : na.kids[k + 1]? = some right) (hl : s.ns[left]? = some nl) (hr : s.ns[right]? = some nr) (hla : left ≠ at_) (hra : right ≠ at_) (hrl : right ≠ left)
    (hc1 : nl.vl = .slice none 0 0) (hc2 : nr.vl = .slice none 0 0) (hkl0 : nl.lines = []) (hkr0 : nr.lines = []) (hrp : 0 < nr.kids.length) (hks : ∀ c ∈ nl.kids ++ nr.kids, c < s.ns.length ∧ c ≠ left ∧ c ≠ right ∧ c ≠ at_)
    (hb1 : ((nl.kids ++ nr.kids).map s.cnt).sum < 2 ^ 62) (hb2 : ((nl.kids ++ nr.kids).map s.byt).sum < 2 ^ 62) (hb3 : nl.kids.length < 400000000 ∧ nr.kids.length < 400000000 ∧ na.kids.length < 400000000 ∧ s.gone.length < 400000000) :
    Calls Tryz.prog 216 #[.pointer (some ⟨t, 0, none⟩), .int .i64 at_, .int .i64 k] w fun e w' => e = .returned (.tuple #[]) ∧ ∃ s', JoinTo s at_ k left right na nl nr s' ∧ Did o w t s' w' := by
  have lA : at_ < s.ns.length := (List.getElem?_eq_some_iff.1 hat).1
  have lL : left < s.ns.length := (List.getElem?_eq_some_iff.1 hl).1
  have lR : right < s.ns.length := (List.getElem?_eq_some_iff.1 hr).1
  obtain ⟨b, cap, hvn, hob, n1, n2, hcc⟩ := h.nodeCells (by omega)
  clear hcc
  obtain ⟨a0, cl0, cl1, cl2, cl3, cf⟩ := h.cellsAt hl hvn
  obtain ⟨zz1, cr0, cr1, cr2, cr3, zz2⟩ := h.cellsAt hr hvn
  obtain ⟨zz3, ca0, ca1, ca2, ca3, zz4⟩ := h.cellsAt hat hvn
  clear zz1 zz2 zz3 zz4
  have hkl := (List.getElem?_eq_some_iff.1 hk).1
  have hkl1 := (List.getElem?_eq_some_iff.1 hk').1
  obtain ⟨kb, kc, hvk, hko, hk1, hk2, hkc⟩ := kidsCells h hat (by simp) (by omega)
  have kc0 := (hkc k left hk).1
  have kc1 := (hkc (k + 1) right hk').1
  obtain ⟨la, lc, hvl, l1, l2⟩ := (h.kids left nl hl (by simp)).form
  obtain ⟨rb, rc, hvr, hro, r1, r2, hrc⟩ := kidsCells h hr (by simp) hrp
  rw [hvl] at cl1
  rw [hvr] at cr1
  rw [hvk] at ca1
  rw [hc1] at cl0
  rw [hc2] at cr0
  rw [hvn] at a0
  have H0 : Hid (Rep o w t s vn vg) := h
  obtain ⟨N, hN⟩ : ∃ N, s.ns.length = N := ⟨_, rfl⟩
  have HN : Hid (s.ns.length = N) := hN
  have GV : Hid (vn = .slice (some ⟨b, 0, none⟩) s.ns.length cap) := hvn
  have GK : Hid (na.vk = .slice (some ⟨kb, 0, none⟩) na.kids.length kc) := hvk
  have GL : Hid (nl.vk = .slice la nl.kids.length lc) := hvl
  have GR : Hid (nr.vk = .slice (some ⟨rb, 0, none⟩) nr.kids.length rc) := hvr
  have GS : Hid (s.ns[at_]? = some na ∧ s.ns[left]? = some nl ∧ s.ns[right]? = some nr ∧ na.kids[k]? = some left ∧ na.kids[k + 1]? = some right) := ⟨hat, hl, hr, hk, hk'⟩
  have GC : Hid (nl.vl = .slice none 0 0 ∧ nr.vl = .slice none 0 0 ∧ nl.lines = [] ∧ nr.lines = []) := ⟨hc1, hc2, hkl0, hkr0⟩
  have GN : Hid (∀ j u, (nums nr.kids)[j]? = some u → w.cell? ((⟨rb, 0, none⟩ : Addr).add j) = some u) := by
    intro j u hj
    rw [Addr.add_lit, Nat.zero_add]
    simp only [nums, List.getElem?_map, Option.map_eq_some_iff] at hj
    obtain ⟨y, hy, rfl⟩ := hj
    exact (hrc j y hy).1
  have GO : Hid (∀ u ∈ nums nr.kids, u.oneCell' = true) := nums_one _
  have GB : Hid (((nl.kids ++ nr.kids).map s.cnt).sum < 2 ^ 62 ∧ ((nl.kids ++ nr.kids).map s.byt).sum < 2 ^ 62 ∧ (∀ c ∈ nl.kids ++ nr.kids, c < s.ns.length ∧ c ≠ left ∧ c ≠ right ∧ c ≠ at_)) := ⟨hb1, hb2, hks⟩
  rw [hN] at a0 n1 lA lL lR
  unfold maxLen at n2 hk2 l2 r2
  clear h hat hk hk' hl hr hc1 hc2 hkl0 hkr0 hvn hvk hvl hvr hkc hrc hN hb1 hb2 hks
  obtain ⟨i9, hi9, z0, z1, z2⟩ := info_parts info3
  go_enter Tryz.func216, Tryz.ntmps216
  go_wp2_with fail
  go_quiet (fail)
  generalize nq = q1
  go_wp2_with fail
  go_quiet (fail)
  go_wp2_with fail
  obtain ⟨W1, hW1⟩ : ∃ W1, (w.drewN q1).drewN nq = W1 := ⟨_, rfl⟩
  rw [hW1]
  have HR1 : Hid (Rep o W1 t s vn vg ∧ Keeps o o w W1) := by rw [← hW1]; exact ⟨(H0.out.drewN q1).drewN nq, ((Keeps.refl o w).drewN' q1).drewN' nq⟩
  have b1 : W1.cell? ⟨b, left * 4, none⟩ = some (.slice none 0 0) := by rw [← hW1]; simpa using cl0
  have b2 : W1.cell? ⟨b, right * 4, none⟩ = some (.slice none 0 0) := by rw [← hW1]; simpa using cr0
  have b3 : ∀ j, W1.frozen? ⟨b, j, none⟩ = false := fun j => by rw [← hW1]; simpa using cf j
  have b4 : W1.cell? ⟨rb, 0, none⟩ = W1.cell? ⟨rb, 0, none⟩ := rfl
  have GQ : Hid (∀ j u, (nums nr.kids)[j]? = some u → W1.cell? ((⟨rb, 0, none⟩ : Addr).add j) = some u) := by
    intro j u hj; have := GN.out j u hj; rw [← hW1]; simpa using this
  clear hW1 b4 a0 cl0 cl1 cl2 cl3 cf cr0 cr1 cr2 cr3 ca0 ca1 ca2 ca3
  go_region
  go_wp2_with fail
  obtain ⟨V1, hV1⟩ : ∃ V1, (W1.setCell ⟨b, left * 4, none⟩ (.slice none 0 0)).drew = V1 := ⟨_, rfl⟩
  rw [hV1]
  have HV : Hid (Rep o V1 t (s.put left { nl with vl := .slice none 0 0, lines := [] }) vn vg ∧ Keeps o o w V1) := by
    rw [← hV1]
    exact ⟨(HR1.out.1.storeL (l := []) (.inr rfl) GS.out.2.1 GV.out rnil).drew, (HR1.out.2.setCell (HR1.out.1.ob GV.out)).drew⟩
  have HP : Hid ((s.put left { nl with vl := .slice none 0 0, lines := [] }).ns[left]? = some { nl with vl := .slice none 0 0, lines := [] } ∧ (s.put left { nl with vl := .slice none 0 0, lines := [] }).ns[right]? = some nr) := ⟨put_same _ (by rw [HN.out]; exact lL), by rw [put_ne _ hrl]; exact GS.out.2.2.1⟩
  obtain ⟨y0, y1, y2, y3, y4, yf⟩ := HV.out.1.cellsAt HP.out.1 GV.out
  obtain ⟨u0, u1, u2, u3, u4, uf⟩ := HV.out.1.cellsAt HP.out.2 GV.out
  have d1 : V1.cell? ⟨b, left * 4 + 1, none⟩ = some (.slice la nl.kids.length lc) := by rw [y2]; exact congrArg some GL.out
  have d2 : V1.cell? ⟨b, right * 4 + 1, none⟩ = some (.slice (some ⟨rb, 0, none⟩) nr.kids.length rc) := by rw [u2, GR.out]
  have GN1 : Hid (∀ j u, (nums nr.kids)[j]? = some u → V1.drew.cell? ((⟨rb, 0, none⟩ : Addr).add j) = some u) := by
    intro j u hj
    have hro' : o rb = .kids right := hro
    rw [← hV1]
    have : rb ≠ b := fun e => by rw [e, hob] at hro'; cases hro'
    have h0 := GQ.out j u hj
    rw [Addr.add_lit] at h0 ⊢
    exact (World.cell?_setCell_other W1 _ _ _ (fun e => this (by injection e with e1; exact e1.symm))).trans h0
  have GW1 : Hid (V1.drew.ownsRow 0 3 1 (.slice la nl.kids.length lc) nl.kids.length (nums nl.kids)) := by
    have := (HV.out.1.drew.kids left _ HP.out.1 (by simp)).1
    have e : (Value.slice la nl.kids.length lc) = nl.vk := GL.out.symm
    rw [e]; exact this
  have GA1 : Hid (∀ (g cp : Nat) (w1 : World), w1.ownsRow 0 3 1 (.slice (some ⟨g, 0, none⟩) (nl.kids.length + nr.kids.length) cp) (nl.kids.length + nr.kids.length) (nums nl.kids ++ nums nr.kids) → V1.drew.grownBy w1 (Value.slice la nl.kids.length lc).ownBlock →
      ((Value.slice la nl.kids.length lc).ownBlock = some g ∨ g = V1.heap.size) → g < w1.heap.size → (w1.cell? ⟨b, left * 4 + 1, none⟩ = some (.slice la nl.kids.length lc) ∧ w1.frozen? ⟨b, left * 4 + 1, none⟩ = false) ∧ ∃ o2, Rep o2 (w1.setCell ⟨b, left * 4 + 1, none⟩ (.slice (some ⟨g, 0, none⟩) (nl.kids.length + nr.kids.length) cp)) t (s.put left ⟨.slice none 0 0, .slice (some ⟨g, 0, none⟩) (nl.kids.length + nr.kids.length) cp, [], nl.kids ++ nr.kids, nl.count, nl.bytes⟩) vn vg ∧
        Keeps o o2 w (w1.setCell ⟨b, left * 4 + 1, none⟩ (.slice (some ⟨g, 0, none⟩) (nl.kids.length + nr.kids.length) cp))) := by
    intro g cp w1 hown hgrow hat hlt
    have hd := HV.out.1.drew
    have hrow := hd.kids left _ HP.out.1 (by simp)
    have hrow' : Row o V1.drew (.kids left) 3 1 (.slice la nl.kids.length lc) nl.kids.length (nums nl.kids) := by
      have e : (Value.slice la nl.kids.length lc) = nl.vk := GL.out.symm
      rw [e]; exact hrow
    obtain ⟨o2, hr2, kb2⟩ := hrow'.grown hd.lt hown hgrow hat hlt
    have hobN : o b = .nodes := hd.nodes.2 b (by rw [GV.out]; rfl)
    have hbl : b < V1.heap.size := hd.lt b (by rw [hobN]; simp)
    have heb : w1.heap[b]? = V1.heap[b]? := kb2.block b hbl (by rw [hobN]; simp)
    refine ⟨⟨by simp only [World.cell?, heb]; exact d1, by have := yf (left * 4 + 1); simp only [World.frozen?, heb] at this ⊢; exact this⟩, o2, ?_, ?_⟩
    · have x1 := (RepX.open_ hd (.kids left)).kb kb2 (by simp) (by simp) (by simp)
      have x2 := x1.storeK (l := nl.kids ++ nr.kids) (.inl rfl) HP.out.1 GV.out (by simpa [nums] using hr2)
      rw [put_put] at x2; exact x2
    · exact ((HV.out.2.drew).trans (kb2.keeps (by simp))).setCell (by rw [kb2.keep b hbl (by rw [hobN]; simp), hobN]; simp)
  have gl0 : (nums nr.kids).length = nr.kids.length * 1 := by simp [nums]
  have gl : Hid ((nums nr.kids).length = nr.kids.length * 1) := gl0
  clear gl0 y0 y1 y2 y3 y4 u0 u1 u2 u3 u4 uf b1 b2 b3 hV1
  go_region_law ((refine step_append_lies _ (by rfl) (.tmp 61) (.tmp 65) 120 (by rfl) 0 3 i9 _ 1 8 Tryz.underlying120 hi9 z0 z1 z2 rfl (by decide) (.slice la nl.kids.length lc) nl.kids.length (nums nl.kids) (by rfl) GW1.out ⟨rb, 0, none⟩ nr.kids.length rc (nums nr.kids) (by rfl) gl.out GN1.out GO.out hrp (by unfold maxLen; omega) (by omega) (Nat.zero_le _) V1.heap.size (by simp) ?_; intro g cp w1 hown hgrow hat hlt; obtain ⟨⟨q0, qf⟩, HF⟩ := GA1.out g cp w1 hown hgrow hat hlt; clear hown hgrow hat))
  all_goals
    obtain ⟨o2, h2, k2⟩ := HF
    go_wp2_with fail
    obtain ⟨W3, hW3⟩ : ∃ W3, w1.setCell ⟨b, left * 4 + 1, none⟩ (.slice (some ⟨g, 0, none⟩) (nl.kids.length + nr.kids.length) cp) = W3 := ⟨_, rfl⟩
    rw [hW3] at h2 k2
    rw [hW3]
    have HR3 : Hid (Rep o2 W3 t (s.put left ⟨.slice none 0 0, .slice (some ⟨g, 0, none⟩) (nl.kids.length + nr.kids.length) cp, [], nl.kids ++ nr.kids, nl.count, nl.bytes⟩) vn vg ∧ Keeps o o2 w W3) := ⟨h2, k2⟩
    have HL3 : Hid ((s.put left ⟨.slice none 0 0, .slice (some ⟨g, 0, none⟩) (nl.kids.length + nr.kids.length) cp, [], nl.kids ++ nr.kids, nl.count, nl.bytes⟩).ns[left]? = some ⟨.slice none 0 0, .slice (some ⟨g, 0, none⟩) (nl.kids.length + nr.kids.length) cp, [], nl.kids ++ nr.kids, nl.count, nl.bytes⟩ ∧ (s.put left ⟨.slice none 0 0, .slice (some ⟨g, 0, none⟩) (nl.kids.length + nr.kids.length) cp, [], nl.kids ++ nr.kids, nl.count, nl.bytes⟩).ns[at_]? = some na ∧ (s.put left ⟨.slice none 0 0, .slice (some ⟨g, 0, none⟩) (nl.kids.length + nr.kids.length) cp, [], nl.kids ++ nr.kids, nl.count, nl.bytes⟩).ns[right]? = some nr) := ⟨put_same _ (by rw [HN.out]; exact lL), by rw [put_ne _ (Ne.symm hla)]; exact GS.out.1, by rw [put_ne _ hrl]; exact GS.out.2.2.1⟩
    clear h2 k2 hW3 q0 qf d1 d2 yf
    obtain ⟨a0, ca0, ca1, ca2, ca3, cf⟩ := HR3.out.1.cellsAt HL3.out.2.1 GV.out
    rw [GV.out, HN.out] at a0
    rw [GK.out] at ca1
    clear ca0 ca2 ca3
    have hw1 : IntKind.i64.wrap ((k : Int) + 1) = (k : Int) + 1 := by rw [IntKind.wrap_i64]; omega
    have hw2 : IntKind.i64.wrap ((k : Int) + 2) = (k : Int) + 2 := by rw [IntKind.wrap_i64]; omega
    have hbN : o2 b = .nodes := HR3.out.1.nodes.2 b (by rw [GV.out]; rfl)
    have htb : b ≠ t := by intro e; rw [e, HR3.out.1.ot] at hbN; cases hbN
    have hbl : b < W3.heap.size := HR3.out.1.lt b (by rw [hbN]; simp)
    have HC : Hid (∀ W : World, W.heap = W3.heap → W.os = W3.os → W.tape = W3.tape → W.output = W3.output → Calls Tryz.prog 222 #[.slice (some ⟨kb, 0, none⟩) na.kids.length kc, .int .i64 ((k : Int) + 1), .int .i64 ((k : Int) + 2)] W fun e w' =>
        ∃ x6 y6, e = .returned (.slice x6 (na.kids.length - 1) y6) ∧ (Value.slice x6 (na.kids.length - 1) y6).ownBlock = na.vk.ownBlock ∧ (∀ j, w'.cell? ⟨b, j, none⟩ = W3.cell? ⟨b, j, none⟩ ∧ w'.frozen? ⟨b, j, none⟩ = false ∧ w'.cell? ⟨t, j, none⟩ = W3.cell? ⟨t, j, none⟩) ∧
          Rep o2 (w'.setCell ⟨b, at_ * 4 + 1, none⟩ (.slice x6 (na.kids.length - 1) y6)) t ((s.put left ⟨.slice none 0 0, .slice (some ⟨g, 0, none⟩) (nl.kids.length + nr.kids.length) cp, [], nl.kids ++ nr.kids, nl.count, nl.bytes⟩).put at_ { na with vk := .slice x6 (na.kids.length - 1) y6, kids := na.kids.take (k + 1) ++ na.kids.drop (k + 2) }) vn vg ∧
          Keeps o o2 w (w'.setCell ⟨b, at_ * 4 + 1, none⟩ (.slice x6 (na.kids.length - 1) y6))) := by
      intro W e1 e2 e3 e4
      have hr0 : Rep o2 W t (s.put left ⟨.slice none 0 0, .slice (some ⟨g, 0, none⟩) (nl.kids.length + nr.kids.length) cp, [], nl.kids ++ nr.kids, nl.count, nl.bytes⟩) vn vg := HR3.out.1.heap e1
      have hk0 : Keeps o o2 w W := by
        have := HR3.out.2
        exact ⟨e2.trans this.os, e3.trans this.tape, e4.trans this.output, by rw [e1]; exact this.size, fun j hj hf => by rw [e1]; exact this.block j hj hf, this.own⟩
      have hrow := hr0.kids at_ na HL3.out.2.1 (by simp)
      rw [GK.out] at hrow
      have hc := delI_any (i := k + 1) (j := k + 2) hrow hr0.lt (by simp) (by omega) (by omega)
      have ek : (((k + 1 : Nat)) : Int) = (k : Int) + 1 := by omega
      have ek2 : (((k + 2 : Nat)) : Int) = (k : Int) + 2 := by omega
      rw [ek, ek2] at hc
      refine hc.mono ?_
      rintro e w' ⟨v', rfl, hvb, hr6, kb6⟩
      have en : na.kids.length - (k + 2 - (k + 1)) = na.kids.length - 1 := by omega
      rw [en] at hr6
      obtain ⟨x6, y6, rfl, _, _⟩ := hr6.form
      have hb6 : w'.heap[b]? = W3.heap[b]? := by rw [kb6.block b (by rw [e1]; exact hbl) (by rw [hbN]; simp), e1]
      have ht6 : w'.heap[t]? = W3.heap[t]? := by rw [kb6.block t hr0.tlt (by rw [hr0.ot]; simp), e1]
      refine ⟨x6, y6, rfl, by rw [GK.out]; exact hvb, fun j => ⟨by simp [World.cell?, hb6], ?_, by simp [World.cell?, ht6]⟩, ?_⟩
      · have : w'.frozen? ⟨b, j, none⟩ = W3.frozen? ⟨b, j, none⟩ := by simp [World.frozen?, hb6]
        rw [this]; exact cf j
      · have x1 := (RepX.open_ hr0 (.kids at_)).kb kb6 (by simp) (by simp) (by simp)
        have hlen : (na.kids.take (k + 1) ++ na.kids.drop (k + 2)).length = na.kids.length - 1 := by simp; omega
        have x2 := x1.storeK (l := na.kids.take (k + 1) ++ na.kids.drop (k + 2)) (.inl rfl) HL3.out.2.1 GV.out (by rw [hlen]; exact hr6)
        exact ⟨x2, (hk0.trans (kb6.keeps (by simp))).setCell (x2.ob GV.out)⟩
    have FIN : Hid (∀ u v c d X, u.ownBlock = na.vk.ownBlock → v = .slice none 0 0 → JoinTo s at_ k left right na nl nr { ((((s.put left ⟨.slice none 0 0, .slice (some ⟨g, 0, none⟩) (nl.kids.length + nr.kids.length) cp, [], nl.kids ++ nr.kids, nl.count, nl.bytes⟩).put at_ { na with vk := u, kids := na.kids.take (k + 1) ++ na.kids.drop (k + 2) }).put right nilNode).put left ⟨v, X, [], nl.kids ++ nr.kids, c, d⟩) with gone := s.gone ++ [right] } ∨ ¬ (c = ((nl.kids ++ nr.kids).map s.cnt).sum ∧ d = ((nl.kids ++ nr.kids).map s.byt).sum)) := by
      intro u v c d X hu hX
      by_cases hcd : c = ((nl.kids ++ nr.kids).map s.cnt).sum ∧ d = ((nl.kids ++ nr.kids).map s.byt).sum
      · left
        obtain ⟨rfl, rfl⟩ := hcd
        refine ⟨rfl, rfl, ?_, ?_, ?_, ⟨v, X, ?_, fun _ => hX, fun e => absurd (List.append_eq_nil_iff.1 e).2 (List.ne_nil_of_length_pos hrp)⟩, ⟨u, hu, ?_⟩⟩
        · show (((((s.put left ⟨.slice none 0 0, .slice (some ⟨g, 0, none⟩) (nl.kids.length + nr.kids.length) cp, [], nl.kids ++ nr.kids, nl.count, nl.bytes⟩).put at_ { na with vk := u, kids := na.kids.take (k + 1) ++ na.kids.drop (k + 2) }).put right nilNode).put left _).ns.length) = _
          rw [put_len, put_len, put_len, put_len]
        · intro j h1 h2 h3
          show ((((s.put left ⟨.slice none 0 0, .slice (some ⟨g, 0, none⟩) (nl.kids.length + nr.kids.length) cp, [], nl.kids ++ nr.kids, nl.count, nl.bytes⟩).put at_ { na with vk := u, kids := na.kids.take (k + 1) ++ na.kids.drop (k + 2) }).put right nilNode).put left _).ns[j]? = _
          rw [put_ne _ h2, put_ne _ h3, put_ne _ h1, put_ne _ h2]
        · show ((((s.put left ⟨.slice none 0 0, .slice (some ⟨g, 0, none⟩) (nl.kids.length + nr.kids.length) cp, [], nl.kids ++ nr.kids, nl.count, nl.bytes⟩).put at_ { na with vk := u, kids := na.kids.take (k + 1) ++ na.kids.drop (k + 2) }).put right nilNode).put left _).ns[right]? = _
          rw [put_ne _ hrl]; exact put_same _ (by rw [put_len, put_len, HN.out]; exact lR)
        · show ((((s.put left ⟨.slice none 0 0, .slice (some ⟨g, 0, none⟩) (nl.kids.length + nr.kids.length) cp, [], nl.kids ++ nr.kids, nl.count, nl.bytes⟩).put at_ { na with vk := u, kids := na.kids.take (k + 1) ++ na.kids.drop (k + 2) }).put right nilNode).put left _).ns[left]? = _
          rw [put_same _ (by rw [put_len, put_len, put_len, HN.out]; exact lL), GC.out.2.2.1, GC.out.2.2.2]; simp [sizes]
        · show ((((s.put left ⟨.slice none 0 0, .slice (some ⟨g, 0, none⟩) (nl.kids.length + nr.kids.length) cp, [], nl.kids ++ nr.kids, nl.count, nl.bytes⟩).put at_ { na with vk := u, kids := na.kids.take (k + 1) ++ na.kids.drop (k + 2) }).put right nilNode).put left _).ns[at_]? = _
          rw [put_ne _ (Ne.symm hla), put_ne _ (Ne.symm hra)]; exact put_same _ (by rw [put_len, HN.out]; exact lA)
      · exact .inr hcd
    have rule : ∀ w', Tk t (.slice (some ⟨b, 0, none⟩) N cap) w' → w'.cell? ⟨t, 0, none⟩ = some (.slice (some ⟨b, 0, none⟩) N cap) := fun _ h => h
    refine wp_region_noPanic ?_
    refine wp_region_held_drew (S := Tk t (.slice (some ⟨b, 0, none⟩) N cap)) (by kernel_rfl) (a0) (fun hHeld => ?_)
    refine takeAt 0 (some 69) ?_ rfl rfl (by kernel_rfl) (by kernel_rfl) (by kernel_rfl) (fun _ _ _ h => h) (Or.inl ⟨by rfl, ?_⟩) hHeld ?_
    rotate_left
    · intro w hSw
      go_simp <;> with_reducible rfl
    try simp only [Act.put, List.setIfInBounds_toArray, List.set_cons_zero, List.set_cons_succ]
    refine takeAt 1 (some 70) ?_ rfl rfl (by kernel_rfl) (by kernel_rfl) (by kernel_rfl) (fun _ _ _ h => h) (Or.inl ⟨by rfl, ?_⟩) hHeld ?_
    rotate_left
    · intro w hSw
      go_simp <;> with_reducible rfl
    try simp only [Act.put, List.setIfInBounds_toArray, List.set_cons_zero, List.set_cons_succ]
    refine takeAt 2 (some 71) ?_ rfl rfl (by kernel_rfl) (by kernel_rfl) (by kernel_rfl) (fun _ _ _ h => h) (Or.inl ⟨by rfl, ?_⟩) hHeld ?_
    rotate_left
    · intro w hSw
      go_simp <;> with_reducible rfl
    try simp only [Act.put, List.setIfInBounds_toArray, List.set_cons_zero, List.set_cons_succ]
    refine takeAt 3 (some 72) ?_ rfl rfl (by kernel_rfl) (by kernel_rfl) (by kernel_rfl) (fun _ _ _ h => h) (Or.inl ⟨by rfl, ?_⟩) hHeld ?_
    rotate_left
    · intro w hSw
      go_simp <;> with_reducible rfl
    try simp only [Act.put, List.setIfInBounds_toArray, List.set_cons_zero, List.set_cons_succ]
    refine takeAt 4 (some 73) ?_ rfl rfl (by kernel_rfl) (by kernel_rfl) (by kernel_rfl) (fun _ _ _ h => h) (Or.inl ⟨by rfl, ?_⟩) hHeld ?_
    rotate_left
    · intro w hSw
      go_simp <;> with_reducible rfl
    try simp only [Act.put, List.setIfInBounds_toArray, List.set_cons_zero, List.set_cons_succ]
    refine takeAt 5 (some 74) ?_ rfl rfl (by kernel_rfl) (by kernel_rfl) (by kernel_rfl) (fun _ _ _ h => h) (Or.inl ⟨by rfl, ?_⟩) hHeld ?_
    rotate_left
    · intro w hSw
      go_simp <;> with_reducible rfl
    try simp only [Act.put, List.setIfInBounds_toArray, List.set_cons_zero, List.set_cons_succ]
    refine takeAt 6 (some 75) ?_ rfl rfl (by kernel_rfl) (by kernel_rfl) (by kernel_rfl) (fun _ _ _ h => h) (Or.inl ⟨by rfl, ?_⟩) hHeld ?_
    rotate_left
    · intro w hSw
      go_simp <;> with_reducible rfl
    try simp only [Act.put, List.setIfInBounds_toArray, List.set_cons_zero, List.set_cons_succ]
    refine takeAt 7 (some 76) ?_ rfl rfl (by kernel_rfl) (by kernel_rfl) (by kernel_rfl) (fun _ _ _ h => h) (Or.inl ⟨by rfl, ?_⟩) hHeld ?_
    rotate_left
    · intro w hSw
      go_simp <;> with_reducible rfl
    try simp only [Act.put, List.setIfInBounds_toArray, List.set_cons_zero, List.set_cons_succ]
    refine takeAt 8 (some 77) ?_ rfl rfl (by kernel_rfl) (by kernel_rfl) (by kernel_rfl) (fun _ _ _ h => h) (Or.inl ⟨by rfl, ?_⟩) hHeld ?_
    rotate_left
    · intro w hSw
      go_simp <;> with_reducible rfl
    try simp only [Act.put, List.setIfInBounds_toArray, List.set_cons_zero, List.set_cons_succ]
    refine takeAt 9 (some 78) ?_ rfl rfl (by kernel_rfl) (by kernel_rfl) (by kernel_rfl) (fun _ _ _ h => h) (Or.inl ⟨by rfl, ?_⟩) hHeld ?_
    rotate_left
    · intro w hSw
      go_simp <;> with_reducible rfl
    try simp only [Act.put, List.setIfInBounds_toArray, List.set_cons_zero, List.set_cons_succ]
    refine takeAt 10 (some 79) ?_ rfl rfl (by kernel_rfl) (by kernel_rfl) (by kernel_rfl) (fun _ _ _ h => h) (Or.inl ⟨by rfl, ?_⟩) hHeld ?_
    rotate_left
    · intro w hSw
      go_simp <;> with_reducible rfl
    try simp only [Act.put, List.setIfInBounds_toArray, List.set_cons_zero, List.set_cons_succ]
    refine takeAt 11 (some 80) ?_ rfl rfl (by kernel_rfl) (by kernel_rfl) (by kernel_rfl) (fun _ _ _ h => h) (Or.inl ⟨by rfl, ?_⟩) hHeld ?_
    rotate_left
    · intro w hSw
      go_simp <;> with_reducible rfl
    try simp only [Act.put, List.setIfInBounds_toArray, List.set_cons_zero, List.set_cons_succ]
    refine takeAt 13 (some 82) ?_ rfl rfl (by kernel_rfl) (by kernel_rfl) (by kernel_rfl) (fun _ _ _ h => h) (Or.inl ⟨by rfl, ?_⟩) hHeld ?_
    rotate_left
    · intro w hSw
      go_simp <;> with_reducible rfl
    try simp only [Act.put, List.setIfInBounds_toArray, List.set_cons_zero, List.set_cons_succ]
    refine takeAt 14 (some 83) ?_ rfl rfl (by kernel_rfl) (by kernel_rfl) (by kernel_rfl) (fun _ _ _ h => h) (Or.inl ⟨by rfl, ?_⟩) hHeld ?_
    rotate_left
    · intro w hSw
      go_simp <;> with_reducible rfl
    try simp only [Act.put, List.setIfInBounds_toArray, List.set_cons_zero, List.set_cons_succ]
    refine takeAt 15 (some 84) ?_ rfl rfl (by kernel_rfl) (by kernel_rfl) (by kernel_rfl) (fun _ _ _ h => h) (Or.inl ⟨by rfl, ?_⟩) hHeld ?_
    rotate_left
    · intro w hSw
      go_simp <;> with_reducible rfl
    try simp only [Act.put, List.setIfInBounds_toArray, List.set_cons_zero, List.set_cons_succ]
    refine takeAt 16 (some 85) ?_ rfl rfl (by kernel_rfl) (by kernel_rfl) (by kernel_rfl) (fun _ _ _ h => h) (Or.inl ⟨by rfl, ?_⟩) hHeld ?_
    rotate_left
    · intro w hSw
      go_simp <;> with_reducible rfl
    try simp only [Act.put, List.setIfInBounds_toArray, List.set_cons_zero, List.set_cons_succ]
    refine wpAnyH_ready (rs := [12]) (by kernel_rfl) (by simp) ?_
    refine AllReadyH.cons rfl (fun K hK => ?_) AllReadyH.nil
    go_simp
    refine hK.out _ _ hHeld (fun hHeld => ?_)
    clear hK K
    try simp only [Act.put, List.setIfInBounds_toArray, List.set_cons_zero, List.set_cons_succ]
    refine callAt 17 86 222 (vals := #[.slice (some ⟨kb, 0, none⟩) na.kids.length kc, .int .i64 ((k : Int) + 1), .int .i64 ((k : Int) + 2)]) (by kernel_rfl) rfl rfl rfl rfl (by simp [Act.eval]) Tryz.func222 (by kernel_rfl) (by kernel_rfl) ?_
    refine (HC.out _ (by rfl) (by rfl) (by rfl) (by rfl)).mono ?_
    rintro e w6 ⟨x6, y6, rfl, hvb6, p6, h6, k6⟩
    refine ⟨_, rfl, show Tk _ _ _ from ((p6 0).2.2).trans a0, fun hHeld => ?_⟩
    have q2 := ((p6 (at_ * 4 + 1)).1).trans ca1
    have q3 := (p6 (at_ * 4 + 1)).2.1
    clear p6
    try simp only [Act.put, List.setIfInBounds_toArray, List.set_cons_zero, List.set_cons_succ]
    refine takeAt 18 (some 87) ?_ rfl rfl (by kernel_rfl) (by kernel_rfl) (by kernel_rfl) (fun _ _ _ h => h) (Or.inl ⟨by rfl, ?_⟩) hHeld ?_
    rotate_left
    · intro w hSw
      go_simp <;> with_reducible rfl
    try simp only [Act.put, List.setIfInBounds_toArray, List.set_cons_zero, List.set_cons_succ]
    refine takeAt 19 (some 88) ?_ rfl rfl (by kernel_rfl) (by kernel_rfl) (by kernel_rfl) (fun _ _ _ h => h) (Or.inl ⟨by rfl, ?_⟩) hHeld ?_
    rotate_left
    · intro w hSw
      go_simp <;> with_reducible rfl
    try simp only [Act.put, List.setIfInBounds_toArray, List.set_cons_zero, List.set_cons_succ]
    refine wpAnyH_ready (rs := [20]) (by kernel_rfl) (by simp) ?_
    refine AllReadyH.cons rfl (fun K hK => ?_) AllReadyH.nil
    go_simp
    refine hK.out _ _ (show Tk _ _ _ from ?_) (fun hHeld => ?_)
    · exact (World.cell?_setCell_other _ _ _ _ (fun e => htb (by injection e))).trans hHeld
    clear hK K
    try simp only [Act.put, List.setIfInBounds_toArray, List.set_cons_zero, List.set_cons_succ]
    refine wpAnyH_done (by kernel_rfl) ?_ _
    refine NoPanic.normal ?_
    go_wp2_with fail
    have HL5 : ((s.put left ⟨.slice none 0 0, .slice (some ⟨g, 0, none⟩) (nl.kids.length + nr.kids.length) cp, [], nl.kids ++ nr.kids, nl.count, nl.bytes⟩).put at_ { na with vk := .slice x6 (na.kids.length - 1) y6, kids := na.kids.take (k + 1) ++ na.kids.drop (k + 2) }).ns[right]? = some nr := by rw [put_ne _ hra]; exact HL3.out.2.2
    refine (drop_any h6 HL5 (by show s.gone.length < _; omega)).mono ?_
    rintro e w7 ⟨rfl, o7, vn7, vg7, h7, k7⟩
    go_wp2_with fail
    have HL7 : (((s.put left ⟨.slice none 0 0, .slice (some ⟨g, 0, none⟩) (nl.kids.length + nr.kids.length) cp, [], nl.kids ++ nr.kids, nl.count, nl.bytes⟩).put at_ { na with vk := .slice x6 (na.kids.length - 1) y6, kids := na.kids.take (k + 1) ++ na.kids.drop (k + 2) }).put right nilNode).ns[left]? = some ⟨.slice none 0 0, .slice (some ⟨g, 0, none⟩) (nl.kids.length + nr.kids.length) cp, [], nl.kids ++ nr.kids, nl.count, nl.bytes⟩ := by rw [put_ne _ (Ne.symm hrl), put_ne _ hla]; exact HL3.out.1
    have FC : ∀ c ∈ nl.kids ++ nr.kids, ((((s.put left ⟨.slice none 0 0, .slice (some ⟨g, 0, none⟩) (nl.kids.length + nr.kids.length) cp, [], nl.kids ++ nr.kids, nl.count, nl.bytes⟩).put at_ { na with vk := .slice x6 (na.kids.length - 1) y6, kids := na.kids.take (k + 1) ++ na.kids.drop (k + 2) }).put right nilNode)).ns[c]? = s.ns[c]? := fun c hc => by
      obtain ⟨_, c1, c2, c3⟩ := GB.out.2.2 c hc
      rw [put_ne _ c2, put_ne _ c3, put_ne _ c1]
    have f1 : (nl.kids ++ nr.kids).map ((((s.put left ⟨.slice none 0 0, .slice (some ⟨g, 0, none⟩) (nl.kids.length + nr.kids.length) cp, [], nl.kids ++ nr.kids, nl.count, nl.bytes⟩).put at_ { na with vk := .slice x6 (na.kids.length - 1) y6, kids := na.kids.take (k + 1) ++ na.kids.drop (k + 2) }).put right nilNode)).cnt = (nl.kids ++ nr.kids).map s.cnt := List.map_congr_left fun c hc => by simp only [St.cnt, FC c hc]
    have f2 : (nl.kids ++ nr.kids).map ((((s.put left ⟨.slice none 0 0, .slice (some ⟨g, 0, none⟩) (nl.kids.length + nr.kids.length) cp, [], nl.kids ++ nr.kids, nl.count, nl.bytes⟩).put at_ { na with vk := .slice x6 (na.kids.length - 1) y6, kids := na.kids.take (k + 1) ++ na.kids.drop (k + 2) }).put right nilNode)).byt = (nl.kids ++ nr.kids).map s.byt := List.map_congr_left fun c hc => by simp only [St.byt, FC c hc]
    have hwg := weigh_any h7 HL7 (fun c hc => ⟨by show c < ((((s.put left ⟨.slice none 0 0, .slice (some ⟨g, 0, none⟩) (nl.kids.length + nr.kids.length) cp, [], nl.kids ++ nr.kids, nl.count, nl.bytes⟩).put at_ { na with vk := .slice x6 (na.kids.length - 1) y6, kids := na.kids.take (k + 1) ++ na.kids.drop (k + 2) }).put right nilNode)).ns.length; rw [put_len, put_len, put_len]; exact (GB.out.2.2 c hc).1, (GB.out.2.2 c hc).2.1⟩) (by show 0 + ((nl.kids ++ nr.kids).map ((((s.put left ⟨.slice none 0 0, .slice (some ⟨g, 0, none⟩) (nl.kids.length + nr.kids.length) cp, [], nl.kids ++ nr.kids, nl.count, nl.bytes⟩).put at_ { na with vk := .slice x6 (na.kids.length - 1) y6, kids := na.kids.take (k + 1) ++ na.kids.drop (k + 2) }).put right nilNode)).cnt).sum < _; rw [f1, Nat.zero_add]; exact GB.out.1) (by show sizes [] + ((nl.kids ++ nr.kids).map ((((s.put left ⟨.slice none 0 0, .slice (some ⟨g, 0, none⟩) (nl.kids.length + nr.kids.length) cp, [], nl.kids ++ nr.kids, nl.count, nl.bytes⟩).put at_ { na with vk := .slice x6 (na.kids.length - 1) y6, kids := na.kids.take (k + 1) ++ na.kids.drop (k + 2) }).put right nilNode)).byt).sum < _; rw [f2, show sizes [] = 0 from rfl, Nat.zero_add]; exact GB.out.2.1)
    have g1 : ([] : List ByteArray).length + ((nl.kids ++ nr.kids).map ((((s.put left ⟨.slice none 0 0, .slice (some ⟨g, 0, none⟩) (nl.kids.length + nr.kids.length) cp, [], nl.kids ++ nr.kids, nl.count, nl.bytes⟩).put at_ { na with vk := .slice x6 (na.kids.length - 1) y6, kids := na.kids.take (k + 1) ++ na.kids.drop (k + 2) }).put right nilNode)).cnt).sum = ((nl.kids ++ nr.kids).map s.cnt).sum := by rw [f1]; exact Nat.zero_add _
    have g2 : sizes [] + ((nl.kids ++ nr.kids).map ((((s.put left ⟨.slice none 0 0, .slice (some ⟨g, 0, none⟩) (nl.kids.length + nr.kids.length) cp, [], nl.kids ++ nr.kids, nl.count, nl.bytes⟩).put at_ { na with vk := .slice x6 (na.kids.length - 1) y6, kids := na.kids.take (k + 1) ++ na.kids.drop (k + 2) }).put right nilNode)).byt).sum = ((nl.kids ++ nr.kids).map s.byt).sum := by rw [f2]; exact Nat.zero_add _
    refine hwg.mono ?_
    rintro e w8 ⟨rfl, h8, k8⟩
    go_wp2_with fail
    go_end0
    refine ⟨rfl, _, ?_, o7, _, _, h8, (k6.trans k7).trans k8⟩
    rcases FIN.out (.slice x6 (na.kids.length - 1) y6) (.slice none 0 0) (([] : List ByteArray).length + ((nl.kids ++ nr.kids).map ((((s.put left ⟨.slice none 0 0, .slice (some ⟨g, 0, none⟩) (nl.kids.length + nr.kids.length) cp, [], nl.kids ++ nr.kids, nl.count, nl.bytes⟩).put at_ { na with vk := .slice x6 (na.kids.length - 1) y6, kids := na.kids.take (k + 1) ++ na.kids.drop (k + 2) }).put right nilNode)).cnt).sum) (sizes [] + ((nl.kids ++ nr.kids).map ((((s.put left ⟨.slice none 0 0, .slice (some ⟨g, 0, none⟩) (nl.kids.length + nr.kids.length) cp, [], nl.kids ++ nr.kids, nl.count, nl.bytes⟩).put at_ { na with vk := .slice x6 (na.kids.length - 1) y6, kids := na.kids.take (k + 1) ++ na.kids.drop (k + 2) }).put right nilNode)).byt).sum) (.slice (some ⟨g, 0, none⟩) (nl.kids.length + nr.kids.length) cp) hvb6 rfl with h | h
    · exact h
    · exact absurd ⟨g1, g2⟩ h
end
end Go.Proofs.YtaefeakmlgjonaaGreat.Tz
