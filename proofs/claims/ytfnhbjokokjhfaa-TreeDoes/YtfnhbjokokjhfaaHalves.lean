/- The tree's call halves, at strings and at ints. -/
import Derived.Test.YtfnhbjokokjhfaaFns4
namespace Go.Proofs.Ytfnhbjokokjhfaa
open Go.ChangeShapes Go.WideShapes Go.ChangeAt Go.RowKit

theorem KB.below {g : Tag} {o : Own} {w w' : World} (hb : Below w.heap.size w w') (hlt : ∀ k, o k ≠ .free → k < w.heap.size) : KB g o o w w' := by
  refine ⟨hb.os, hb.tape, hb.output, hb.size, fun k hk _ => hb.block k hk, fun _ _ _ => rfl, fun _ => .inl rfl, fun k hk => ?_, fun k _ h => .inl h, fun k hk => Nat.lt_of_lt_of_le (hlt k hk) hb.size⟩
  by_cases h : o k = .free
  · exact .inr h
  · exact absurd (hlt k h) (by omega)
theorem Row.below {g : Tag} {o : Own} {w w' : World} {e : TypeId} {size n : Nat} {v : Value} {xs : List Value} (h : Row o w g e size v n xs) (hb : Below w.heap.size w w') : Row o w' g e size v n xs := h.same fun k hk => hb.block k (h.lt hk)
theorem owns_kb {g : Tag} {o o' : Own} {w w' : World} {base size n : Nat} {e : TypeId} {v : Value} {xs : List Value} (h : w.ownsRow base e size v n xs) (k : KB g o o' w w') (hf : ∀ b, base ≤ b → o b ≠ g) : w'.ownsRow base e size v n xs := by
  refine ⟨h.1, ?_⟩
  rcases h.2 with hn | ⟨b, cap, cur, rfl, hb, hg, rest⟩
  · exact .inl hn
  · exact .inr ⟨b, cap, cur, rfl, hb, (k.block b (Array.getElem?_eq_some_iff.1 hg).1 (hf b hb)).trans hg, rest⟩

def HalfS (o : Own) (w : World) (g : Tag) (l : List ByteArray) (v1 v2 : Value) (w' : World) : Prop :=
  Row o w' g 9 1 v1 (l.take (l.length / 2)).length (strs (l.take (l.length / 2))) ∧ w'.ownsRow w.heap.size 9 1 v2 (l.drop (l.length / 2)).length (strs (l.drop (l.length / 2))) ∧ KB g o o w w' ∧ (l = [] → v1 = .slice none 0 0 ∧ v2 = .slice none 0 0)
theorem halvesS_any {o : Own} {w : World} {g : Tag} {v : Value} {l : List ByteArray} (hr : Row o w g 9 1 v l.length (strs l)) (hlt : ∀ k, o k ≠ .free → k < w.heap.size) (hg : g ≠ .free) (hn : l.length < 1000000000) (hp : l = [] → v = .slice none 0 0) :
    Calls Try.prog 58 #[v] w fun e w' => ∃ v1 v2, e = .returned (.tuple #[v1, v2]) ∧ HalfS o w g l v1 v2 w' := by
  by_cases h0 : l.length = 0
  · obtain rfl : l = [] := List.eq_nil_of_length_eq_zero h0
    obtain rfl := hp rfl
    have HF : Hid (HalfS o w g [] (.slice none 0 0) (.slice none 0 0) w) := ⟨hr, World.ownsRow_nil _ _ _ _, KB.same rfl rfl rfl rfl hlt, fun _ => ⟨rfl, rfl⟩⟩
    clear hr hp hlt h0
    go_enter Try.func58, Try.ntmps58
    go_wp2_with (first | (go_at_call 63; refine (cloS_nil _).mono ?_; rintro e w1 ⟨rfl, rfl⟩) | go_in)
    go_ret2
    exact ⟨_, _, rfl, HF.out⟩
  · obtain ⟨b, cap, cur, rfl, hob, hb, hnc, hcm, hcs, htk⟩ := hr.shape (by omega)
    simp only [Nat.mul_one] at hcs htk
    have HC : Hid (∀ j u, (strs (l.drop (l.length / 2)))[j]? = some u → w.cell? ⟨b, l.length / 2 + j, none⟩ = some u) := by
      intro j u hj
      rw [cell_at hb]
      have e : strs (l.drop (l.length / 2)) = (strs l).drop (l.length / 2) := by simp [strs, List.map_drop]
      rw [e, List.getElem?_drop] at hj
      have := take_getElem? htk hj
      simpa using this
    have HD : Hid (∀ w1, Below w.heap.size w w1 → Calls Try.prog 35 #[.slice (some ⟨b, 0, none⟩) l.length cap, .int .i64 ((l.length / 2 : Nat) : Int), .int .i64 (l.length : Int)] w1 fun e w' => ∃ v', e = .returned v' ∧ v'.ownBlock = some b ∧ Row o w' g 9 1 v' (l.length - (l.length - l.length / 2)) (strs (l.take (l.length / 2) ++ l.drop l.length)) ∧ KB g o o w1 w') := fun w1 hb1 =>
      delS_any (hr.below hb1) (fun k hk => Nat.lt_of_lt_of_le (hlt k hk) hb1.size) hg (by omega) (by omega)
    have HF : Hid (∀ w1 w2 v1 v2, Below w.heap.size w w1 → w1.ownsRow w.heap.size 9 1 v2 (l.drop (l.length / 2)).length (strs (l.drop (l.length / 2))) → Row o w2 g 9 1 v1 (l.length - (l.length - l.length / 2)) (strs (l.take (l.length / 2) ++ l.drop l.length)) → KB g o o w1 w2 → HalfS o w g l v1 v2 w2) := by
      intro w1 w2 v1 v2 hb1 ho2 hr1 hk
      have k0 : KB g o o w w1 := KB.below hb1 hlt
      refine ⟨?_, owns_kb ho2 hk (fun k hk' e => hg (by rw [← e]; by_cases h : o k = .free; exact h; exact absurd (hlt k h) (by omega))), k0.trans hg hk, fun e => absurd (by rw [e]; rfl) h0⟩
      have e1 : l.take (l.length / 2) ++ l.drop l.length = l.take (l.length / 2) := by rw [List.drop_length, List.append_nil]
      have e2 : l.length - (l.length - l.length / 2) = (l.take (l.length / 2)).length := by rw [List.length_take]; omega
      rw [e1, e2] at hr1; exact hr1
    have hdl : Hid ((l.drop (l.length / 2)).length = l.length - l.length / 2) := List.length_drop
    unfold maxLen at hcm
    have h1 : ¬ (cap = l.length / 2) := by omega
    have h2 : ((l.length : Int) / 2) = ((l.length / 2 : Nat) : Int) := by omega
    have h3 : l.length / 2 < l.length := by omega
    clear hr hlt htk hcs hb hob hp
    generalize hH : l.length / 2 = M at *
    generalize hL : l.length = L at *
    clear hH hL
    go_enter Try.func58, Try.ntmps58
    go_wp2_with (first
      | (go_at_call 63; refine (cloS_any (l := l.drop M) hdl.out (by omega) HC.out).mono ?_; rintro e w1 ⟨v2, rfl, ho2, hb1⟩)
      | (go_at_call 35; refine (HD.out _ hb1).mono ?_; rintro e w2 ⟨v1, rfl, hv1, hr1, hk1⟩))
    go_ret2
    exact ⟨_, _, rfl, HF.out _ _ _ _ hb1 (by rw [hdl.out]; exact ho2) hr1 hk1⟩

def HalfI (o : Own) (w : World) (g : Tag) (l : List Nat) (v1 v2 : Value) (w' : World) : Prop :=
  Row o w' g 3 1 v1 (l.take (l.length / 2)).length (nums (l.take (l.length / 2))) ∧ w'.ownsRow w.heap.size 3 1 v2 (l.drop (l.length / 2)).length (nums (l.drop (l.length / 2))) ∧ KB g o o w w' ∧ (l = [] → v1 = .slice none 0 0 ∧ v2 = .slice none 0 0)
theorem halvesI_any {o : Own} {w : World} {g : Tag} {v : Value} {l : List Nat} (hr : Row o w g 3 1 v l.length (nums l)) (hlt : ∀ k, o k ≠ .free → k < w.heap.size) (hg : g ≠ .free) (hn : l.length < 1000000000) (hp : l = [] → v = .slice none 0 0) :
    Calls Try.prog 59 #[v] w fun e w' => ∃ v1 v2, e = .returned (.tuple #[v1, v2]) ∧ HalfI o w g l v1 v2 w' := by
  by_cases h0 : l.length = 0
  · obtain rfl : l = [] := List.eq_nil_of_length_eq_zero h0
    obtain rfl := hp rfl
    have HF : Hid (HalfI o w g [] (.slice none 0 0) (.slice none 0 0) w) := ⟨hr, World.ownsRow_nil _ _ _ _, KB.same rfl rfl rfl rfl hlt, fun _ => ⟨rfl, rfl⟩⟩
    clear hr hp hlt h0
    go_enter Try.func59, Try.ntmps59
    go_wp2_with (first | (go_at_call 64; refine (cloI_nil _).mono ?_; rintro e w1 ⟨rfl, rfl⟩) | go_in)
    go_ret2
    exact ⟨_, _, rfl, HF.out⟩
  · obtain ⟨b, cap, cur, rfl, hob, hb, hnc, hcm, hcs, htk⟩ := hr.shape (by omega)
    simp only [Nat.mul_one] at hcs htk
    have HC : Hid (∀ j u, (nums (l.drop (l.length / 2)))[j]? = some u → w.cell? ⟨b, l.length / 2 + j, none⟩ = some u) := by
      intro j u hj
      rw [cell_at hb]
      have e : nums (l.drop (l.length / 2)) = (nums l).drop (l.length / 2) := by simp [nums, List.map_drop]
      rw [e, List.getElem?_drop] at hj
      have := take_getElem? htk hj
      simpa using this
    have HD : Hid (∀ w1, Below w.heap.size w w1 → Calls Try.prog 62 #[.slice (some ⟨b, 0, none⟩) l.length cap, .int .i64 ((l.length / 2 : Nat) : Int), .int .i64 (l.length : Int)] w1 fun e w' => ∃ v', e = .returned v' ∧ v'.ownBlock = some b ∧ Row o w' g 3 1 v' (l.length - (l.length - l.length / 2)) (nums (l.take (l.length / 2) ++ l.drop l.length)) ∧ KB g o o w1 w') := fun w1 hb1 =>
      delI_any (hr.below hb1) (fun k hk => Nat.lt_of_lt_of_le (hlt k hk) hb1.size) hg (by omega) (by omega)
    have HF : Hid (∀ w1 w2 v1 v2, Below w.heap.size w w1 → w1.ownsRow w.heap.size 3 1 v2 (l.drop (l.length / 2)).length (nums (l.drop (l.length / 2))) → Row o w2 g 3 1 v1 (l.length - (l.length - l.length / 2)) (nums (l.take (l.length / 2) ++ l.drop l.length)) → KB g o o w1 w2 → HalfI o w g l v1 v2 w2) := by
      intro w1 w2 v1 v2 hb1 ho2 hr1 hk
      have k0 : KB g o o w w1 := KB.below hb1 hlt
      refine ⟨?_, owns_kb ho2 hk (fun k hk' e => hg (by rw [← e]; by_cases h : o k = .free; exact h; exact absurd (hlt k h) (by omega))), k0.trans hg hk, fun e => absurd (by rw [e]; rfl) h0⟩
      have e1 : l.take (l.length / 2) ++ l.drop l.length = l.take (l.length / 2) := by rw [List.drop_length, List.append_nil]
      have e2 : l.length - (l.length - l.length / 2) = (l.take (l.length / 2)).length := by rw [List.length_take]; omega
      rw [e1, e2] at hr1; exact hr1
    have hdl : Hid ((l.drop (l.length / 2)).length = l.length - l.length / 2) := List.length_drop
    unfold maxLen at hcm
    have h1 : ¬ (cap = l.length / 2) := by omega
    have h2 : ((l.length : Int) / 2) = ((l.length / 2 : Nat) : Int) := by omega
    have h3 : l.length / 2 < l.length := by omega
    clear hr hlt htk hcs hb hob hp
    generalize hH : l.length / 2 = M at *
    generalize hL : l.length = L at *
    clear hH hL
    go_enter Try.func59, Try.ntmps59
    go_wp2_with (first
      | (go_at_call 64; refine (cloI_any (l := l.drop M) hdl.out (by omega) HC.out).mono ?_; rintro e w1 ⟨v2, rfl, ho2, hb1⟩)
      | (go_at_call 62; refine (HD.out _ hb1).mono ?_; rintro e w2 ⟨v1, rfl, hv1, hr1, hk1⟩))
    go_ret2
    exact ⟨_, _, rfl, HF.out _ _ _ _ hb1 (by rw [hdl.out]; exact ho2) hr1 hk1⟩

end Go.Proofs.Ytfnhbjokokjhfaa
