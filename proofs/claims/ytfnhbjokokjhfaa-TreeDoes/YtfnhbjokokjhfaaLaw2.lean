/- A guarded call in a region that draws its order; an argument of small numbers. -/
import Derived.Test.YtfnhbjokokjhfaaLaw1
namespace Go.Proofs.Ytfnhbjokokjhfaa
open Go.ChangeShapes Go.WideShapes Go.ChangeAt Go.RowKit
theorem callAtG {P : Program} {ops : Array Oper} {Q : Exit → Act → World → Prop} {md : Region.Mode} {S : World → Prop} (i : Nat) (d : Tmp) (f : FuncId) {o : Oper} {fn : Func} {fuel : Nat} {listed : Array Bool} {a : Act} {w : World} {xs : Array Operand} {ats : Array TypeId} {vals : Array Value}
    (hr : Region.ready md ops listed = [i]) (ho : ops[i]? = some o) (hop : o.op = .call { callee := .value (.func f), args := xs, argTypes := ats }) (hd : o.dst = some d) (hw : Region.wanted o (yielded ops a.tmps) = true) (hv : xs.map a.eval = vals)
    (hf : P.funcs[f]? = some fn) (hn : (fn.name == "runtime.NumGoroutine") = false) (hb : fn.body.isNone = false)
    (h : Calls P f vals w fun e w' => ∃ v, e = .returned v ∧ S w' ∧ (S w' → wpAnyH P md ops Q S fuel (listed.setIfInBounds i true) (a.put (some d) v) w')) : wpAnyH P md ops Q S (fuel + 1) listed a w := by
  refine wpAnyH_ready hr (by simp) ?_
  refine AllReadyH.cons ho (fun K hK => ?_) AllReadyH.nil
  rw [if_pos hw]
  obtain ⟨dst, op, type, pos, after, guard⟩ := o
  simp only at hop hd
  subst hop; subst hd
  unfold Oper.wp
  rw [execOp_call_go, show (#[] ++ xs.map a.eval ++ #[]) = vals by simp [hv], run_callGo vals w hf hn hb]
  simp only [Oper.upon]
  refine Calls.mono h ?_
  rintro e w' ⟨v, rfl, hS, hW⟩
  exact hK.out _ _ hS hW
/-- A cell. -/
def Tc (a : Addr) (v : Value) (w' : World) : Prop := w'.cell? a = some v
/-- The slice 'v' has the numbers 'zs'. -/
def Picks (W : World) (v : Value) (zs : List Nat) : Prop :=
  ∃ a cap, v = .slice a zs.length cap ∧ zs.length ≤ cap ∧ cap ≤ maxLen ∧ (zs = [] ∨ ∃ b off, a = some ⟨b, off, none⟩ ∧ b < W.heap.size ∧ ∀ (j : Nat) z, zs[j]? = some z → W.cell? ⟨b, off + j, none⟩ = some (.int .u16 z) ∧ z < 65536)
theorem Picks.cell {W : World} {a : Option Addr} {n cap : Nat} {zs : List Nat} (h : Picks W (.slice a n cap) zs) {j z : Nat} (hj : zs[j]? = some z) : ∃ b off, a = some ⟨b, off, none⟩ ∧ z < 65536 ∧ ∀ W', Below W.heap.size W W' → W'.cell? ⟨b, off + j, none⟩ = some (.int .u16 z) := by
  obtain ⟨a', cap', h1, h2, h3, h | ⟨b, off, h4, h5, h7⟩⟩ := h
  · subst h; cases hj
  · injection h1 with h1 _ _
    refine ⟨b, off, h1.trans h4, (h7 j z hj).2, fun W' hb => ?_⟩
    have := (h7 j z hj).1
    simp only [World.cell?, hb.block b h5] at this ⊢; exact this
theorem under16 : Try.prog.underlying 36 = some (.int .u16) := by kernel_rfl
theorem under16s : Try.prog.underlying 34 = some (.slice 36) := by kernel_rfl
theorem cells16 : Try.prog.cellsOf 36 = 1 := by kernel_rfl
theorem picks_form {H : Type} {enc : TypeId × Value → H} {W : World} {base : Nat} {v : Value} {d : DataW H} {p : List MemPlace} (hval : Value.okWide Try.prog W .any base 34 v) (h : DataW.Trod enc Try.prog W 0 (fun _ => true) true 34 v d p) :
    ∃ zs, Picks W v zs ∧ ((∀ n ∈ d.weights Try.prog 34, n ≤ reachBytes) → True) := by
  obtain ⟨a0, len0, cap0, rfl⟩ := okWide_slice under16s hval
  obtain ⟨fuel, hf⟩ := h
  rcases open_ints under16s under16 cells16 hf with ⟨hcs, hx⟩ | ⟨a, len, cap, zs, hcs, _, hl, hm, hmm, hx, hcell, hwf⟩
  · simp [Value.cells] at hcs
    obtain ⟨rfl, rfl, rfl⟩ := hcs
    exact ⟨[], ⟨none, 0, rfl, by simp, by simp [maxLen], .inl rfl⟩, fun _ => trivial⟩
  · simp [Value.cells] at hcs
    obtain ⟨rfl, rfl, rfl⟩ := hcs
    simp only [if_true] at hmm
    have hzl : ((zs.take len0).map Int.toNat).length = len0 := by simp; omega
    refine ⟨(zs.take len0).map Int.toNat, ⟨some a, cap0, by rw [hzl], by rw [hzl]; exact hl, hm, ?_⟩, fun _ => trivial⟩
    by_cases h0 : len0 = 0
    · left; subst h0; simp
    · right
      obtain ⟨b, off, spot⟩ := a
      have hspot : spot = none := by simpa [Addr.add] using World.cell?_spot (hcell 0 (by omega))
      subst hspot
      have hc : ∀ j, j < zs.length → W.cell? ⟨b, off + j, none⟩ = some (.int .u16 (zs.getD j 0)) := fun j hj => by rw [← add_plain]; exact hcell j hj
      refine ⟨b, off, rfl, World.block_lt_of_cell? _ _ (hc 0 (by omega)), fun j z hj => ?_⟩
      simp only [List.getElem?_map, Option.map_eq_some_iff] at hj
      obtain ⟨y, hy, rfl⟩ := hj
      rw [List.getElem?_take] at hy
      split at hy
      · obtain ⟨hlt, hy⟩ := List.getElem?_eq_some_iff.1 hy
        have hw := hwf y (by rw [← hy]; exact List.getElem_mem hlt)
        simp only [Lit.wf, Bool.and_eq_true, decide_eq_true_eq] at hw
        have h1 : IntKind.u16.min = 0 := by decide
        have h2 : IntKind.u16.max = 65535 := by decide
        have hcj := hc j hlt
        rw [show zs.getD j 0 = y by simp [List.getD, hlt, hy]] at hcj
        exact ⟨by rw [hcj, Int.toNat_of_nonneg (by omega)], by omega⟩
      · cases hy
end Go.Proofs.Ytfnhbjokokjhfaa
