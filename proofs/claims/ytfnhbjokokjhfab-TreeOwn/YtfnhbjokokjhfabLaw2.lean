/- A guarded call in a region that draws its order; an argument of small numbers. -/
import Derived.Test.YtfnhbjokokjhfabLaw1
namespace Go.Proofs.Ytfnhbjokokjhfab
open Go.ChangeShapes Go.WideShapes Go.ChangeAt Go.RowKit
theorem callAtG {P : Program} {ops : Array Oper} {Q : Exit → Act → World → Prop} {md : Region.Mode} {S : World → Prop} (i : Nat) (d : Tmp) (f : FuncId) {o : Oper} {fn : Func} {fuel : Nat} {listed : Array Bool} {a : Act} {w : World} {xs : Array Operand} {ats : Array TypeId} {vals : Array Value}
    (hr : Region.ready md ops listed = [i]) (ho : ops[i]? = some o) (hop : o.op = .call { callee := .value (.func f), args := xs, argTypes := ats }) (hd : o.dst = some d) (hw : Region.wanted o (yielded ops a.tmps) = true) (hv : xs.map a.eval = vals)
    (hf : P.funcs[f]? = some fn) (hn : (fn.name == "runtime.NumGoroutine") = false) (hb : fn.body.isNone = false)
    (h : Calls P f vals w fun e w' => ∃ v, e = .returned v ∧ S w' ∧ (S w' → wpAnyH P md ops Q S fuel (listed.setIfInBounds i true) (a.put (some d) v) w')) : wpAnyH P md ops Q S (fuel + 1) listed a w := by
  refine wpAnyH_ready hr (by simp) ?_
  refine AllReadyH.cons ho (fun K hK => ?_) AllReadyH.nil
  rw [if_pos hw]
  obtain ⟨dst, op, type, pos, after, guard⟩ := o
  simp only at hop hd
  subst hop; subst hd
  unfold Oper.wp
  rw [execOp_call_go, show (#[] ++ xs.map a.eval ++ #[]) = vals by simp [hv], run_callGo vals w hf hn hb]
  simp only [Oper.upon]
  refine Calls.mono h ?_
  rintro e w' ⟨v, rfl, hS, hW⟩
  exact hK.out _ _ hS hW
/-- A cell. -/
def Tc (a : Addr) (v : Value) (w' : World) : Prop := w'.cell? a = some v
/-- The slice 'v' has the numbers 'zs'. -/
def Picks (W : World) (v : Value) (zs : List Nat) : Prop :=
  ∃ a cap, v = .slice a zs.length cap ∧ zs.length ≤ cap ∧ cap ≤ maxLen ∧ (zs = [] ∨ ∃ b off, a = some ⟨b, off, none⟩ ∧ b < W.heap.size ∧ ∀ (j : Nat) z, zs[j]? = some z → W.cell? ⟨b, off + j, none⟩ = some (.int .u16 z) ∧ z < 65536)
theorem Picks.cell {W : World} {a : Option Addr} {n cap : Nat} {zs : List Nat} (h : Picks W (.slice a n cap) zs) {j z : Nat} (hj : zs[j]? = some z) : ∃ b off, a = some ⟨b, off, none⟩ ∧ z < 65536 ∧ ∀ W', Below W.heap.size W W' → W'.cell? ⟨b, off + j, none⟩ = some (.int .u16 z) := by
  obtain ⟨a', cap', h1, h2, h3, h | ⟨b, off, h4, h5, h7⟩⟩ := h
  · subst h; cases hj
  · injection h1 with h1 _ _
    refine ⟨b, off, h1.trans h4, (h7 j z hj).2, fun W' hb => ?_⟩
    have := (h7 j z hj).1
    simp only [World.cell?, hb.block b h5] at this ⊢; exact this
end Go.Proofs.Ytfnhbjokokjhfab
