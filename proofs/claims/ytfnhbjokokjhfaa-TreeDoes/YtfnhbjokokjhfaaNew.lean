/- The tree's call New. -/
import Derived.Test.YtfnhbjokokjhfaaSplice
namespace Go.Proofs.Ytfnhbjokokjhfaa
open Go.ChangeShapes Go.WideShapes Go.ChangeAt Go.RowKit
def nobody : Own := fun _ => .free
theorem new_any {w : World} {v : Value} {ms : List ByteArray} (hv : Lies nobody w v ms) (hl : ms.length < 1000000) (hb : sizes ms < 2 ^ 62) :
    Calls Try.prog 10 #[v] w fun e w' => e = .returned (.pointer (some ⟨w.heap.size, 0, none⟩)) ∧ After nobody w w.heap.size ms (1 + 22 * ms.length) w' := by
  have hr0 : Rep (give nobody w.heap.size .tree) (w.alloc (.cells #[.slice none 0 0, .slice none 0 0, .int .i64 0] 57)) w.heap.size ⟨[], [], 0⟩ (.slice none 0 0) (.slice none 0 0) := by
    refine ⟨by simp [give], alloc_new w _, ⟨World.ownsRow_nil _ _ _ _, fun k hk => by simp [Value.ownBlock] at hk⟩, rnil, fun i n hi => by simp at hi, fun i n hi => by simp at hi, fun k hk => ?_⟩
    by_cases e : k = w.heap.size
    · rw [e]; simp
    · exact absurd (by simp [give, e, nobody]) hk
  have k0 : Keeps nobody (give nobody w.heap.size .tree) w (w.alloc (.cells #[.slice none 0 0, .slice none 0 0, .int .i64 0] 57)) := ((Keeps.refl nobody w).alloc _).give (Nat.le_refl _) _
  have HF := fresh_new hr0 rfl (by simp)
  obtain ⟨a, cap, hva, c1, c2⟩ := hv.form
  have HS : Hid (∀ (o1 : Own) (vn1 : Value) (w1 : World), Rep o1 w1 w.heap.size ⟨[nilNode], [], 0⟩ vn1 (.slice none 0 0) → Keeps (give nobody w.heap.size .tree) o1 (w.alloc (.cells #[.slice none 0 0, .slice none 0 0, .int .i64 0] 57)) w1 →
      Calls Try.prog 27 #[.pointer (some ⟨w.heap.size, 0, none⟩), .int .i64 0, .int .i64 0, v] (w1.setCell ⟨w.heap.size, 2, none⟩ (.int .i64 0)) fun e w' => e = .returned (.bool true) ∧ After nobody w w.heap.size ms (1 + 22 * ms.length) w') := by
    intro o1 vn1 w1 h1 k1
    have h2 := h1.storeTop 0
    have k2 : Keeps nobody o1 w (w1.setCell ⟨w.heap.size, 2, none⟩ (.int .i64 ((0 : Nat) : Int))) := (k0.trans k1).setCell (by rw [h1.ot]; simp)
    have hI : Inv ⟨[nilNode], [], 0⟩ 0 [] := ⟨[0], ⟨rfl, .slice none 0 0, rfl⟩, ⟨by simp [List.range_succ], fun g hg => by cases hg⟩, by simp [St.wid, nilNode, Node.wid], fun h => absurd h (by omega)⟩
    have hT : Tr o1 (w1.setCell ⟨w.heap.size, 2, none⟩ (.int .i64 ((0 : Nat) : Int))) w.heap.size [] 1 := ⟨_, _, _, 0, h2, hI, by simp⟩
    have hc := splice_ok hT (hv.keeps k2) (i := 0) (n := 0) (by simp) (by simp; omega) (by omega) (by simp [sizes] at hb ⊢; omega)
    have e1 : mix [] ms 0 ms.length (0 + 0) = ms := by simp [mix]
    rw [e1] at hc
    refine Calls.mono hc ?_
    rintro e w' ⟨rfl, o2, q1, q2⟩
    exact ⟨rfl, o2, q1.mono (by omega), k2.trans q2⟩
  have hfro : ∀ (o1 : Own) (vn1 : Value) (w1 : World), Rep o1 w1 w.heap.size ⟨[nilNode], [], 0⟩ vn1 (.slice none 0 0) → w1.cell? ⟨w.heap.size, 2, none⟩ = some (.int .i64 0) ∧ w1.frozen? ⟨w.heap.size, 2, none⟩ = false := fun o1 vn1 w1 h1 => ⟨h1.at2, h1.atF 2⟩
  have HFR : Hid (∀ (o1 : Own) (vn1 : Value) (w1 : World), Rep o1 w1 w.heap.size ⟨[nilNode], [], 0⟩ vn1 (.slice none 0 0) → w1.cell? ⟨w.heap.size, 2, none⟩ = some (.int .i64 0) ∧ w1.frozen? ⟨w.heap.size, 2, none⟩ = false) := hfro
  clear hr0 k0 hv hfro hva
  go_enter Try.func10, Try.ntmps10
  go_wp2_with (go_at_call 28; refine HF.mono ?_; rintro e w1 ⟨rfl, o1, vn1, h1, k1⟩; obtain ⟨q1, q2⟩ := HFR.out _ _ _ h1)
  refine (HS.out o1 vn1 w1 h1 k1).mono ?_
  rintro e w2 ⟨rfl, HQ⟩
  go_wp2_with fail
  go_ret
  exact ⟨rfl, HQ⟩
end Go.Proofs.Ytfnhbjokokjhfaa
