/- A call through a function value comes up alone in a region that draws its order. -/
import Derived.Test.YtfnhbjokokjhfabFns5
namespace Go.Proofs.Ytfnhbjokokjhfab
open Go.ChangeShapes Go.WideShapes Go.ChangeAt Go.RowKit

theorem callVal {P : Program} {ops : Array Oper} {Q : Exit → Act → World → Prop} {md : Region.Mode} {S : World → Prop} (i : Nat) (d : Tmp) (c : Operand) (f : FuncId) (caps : Array Value) {o : Oper} {fn : Func} {fuel : Nat} {listed : Array Bool} {a : Act} {w : World} {xs : Array Operand} {ats : Array TypeId} {vals : Array Value}
    (hr : Region.ready md ops listed = [i]) (ho : ops[i]? = some o) (hop : o.op = .call { callee := .value c, args := xs, argTypes := ats }) (hd : o.dst = some d) (hg : o.guard = none) (hv : xs.map a.eval = vals)
    (hc : a.eval c = .func (.func f) #[] caps)
    (hf : P.funcs[f]? = some fn) (hn : (fn.name == "runtime.NumGoroutine") = false) (hb : fn.body.isNone = false)
    (h : Calls P f (vals ++ caps) w fun e w' => ∃ v, e = .returned v ∧ S w' ∧ (S w' → wpAnyH P md ops Q S fuel (listed.setIfInBounds i true) (a.put (some d) v) w')) : wpAnyH P md ops Q S (fuel + 1) listed a w := by
  refine wpAnyH_ready hr (by simp) ?_
  refine AllReadyH.cons ho (fun K hK => ?_) AllReadyH.nil
  have hw : Region.wanted o (yielded ops a.tmps) = true := by simp [Region.wanted, hg]
  rw [if_pos hw]
  obtain ⟨dst, op, type, pos, after, guard⟩ := o
  simp only at hop hd hg
  subst hop; subst hd; subst hg
  unfold Oper.wp
  have hrun : (execOp a.eval { dst := some d, op := .call { callee := .value c, args := xs, argTypes := ats }, type, pos, after, guard := none }).run P w = .ok (.enter f (vals ++ caps)) w := by
    have h2 := run_callGo (P := P) (vals ++ caps) w hf hn hb
    subst hv
    simp [execOp, resolve, invoke, hc, Deferred.ofValue, h2]
  rw [hrun]
  simp only [Oper.upon]
  refine Calls.mono h ?_
  rintro e w' ⟨v, rfl, hS, hW⟩
  exact hK.out _ _ hS hW
end Go.Proofs.Ytfnhbjokokjhfab
