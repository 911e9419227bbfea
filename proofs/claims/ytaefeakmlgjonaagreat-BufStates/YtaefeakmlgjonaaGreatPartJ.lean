/- Texts that the proof of the law stands on: MzMK, MzMF, MzMS, MzMC, BF, BG, BH, BI, BJ, BHand, BU, BV, BL, BQ, BR. -/
import Derived.Test.YtaefeakmlgjonaaGreatPartI
import Derived.Shelf.Abstract
import Derived.Shelf.SlMaps.Clone
import Derived.DeepKeys
import Derived.Test.YtaefeakmlgjonaaGreatPartE
import Derived.Lib.MinMax
import Derived.Deep.RegionWith
import Derived.Deep.RegionHeld3
/- New, Set and Get of marks: what each answers, and what it leaves. -/
namespace Go.Proofs.YtaefeakmlgjonaaGreat.Mz
open Go.ChangeShapes Go.WideShapes Go.ChangeAt Go.RowKit Go.Maps Go.MapKept
set_option linter.unusedVariables false
set_option linter.unusedSimpArgs false
/-- At a place of a block. -/
structure Bxo (t o : Nat) (v : Value) (w : World) : Prop where
  lc : ∃ T l, Lc T t l w ∧ l[o]? = some v
theorem Bxo.lt {t o : Nat} {v : Value} {w : World} (h : Bxo t o v w) : t < w.heap.size := by obtain ⟨T, l, q, _⟩ := h.lc; exact q.lt
theorem Bxo.cell_ {t o : Nat} {v : Value} {w : World} (h : Bxo t o v w) : w.cell? ⟨t, o, none⟩ = some v := by obtain ⟨T, l, q, e⟩ := h.lc; exact q.at e
theorem Bxo.kp {t o : Nat} {v : Value} {w w1 : World} (h : Bxo t o v w) (k : Kp w w1) : Bxo t o v w1 := by obtain ⟨T, l, q, e⟩ := h.lc; exact ⟨T, l, q.kp k, e⟩
theorem Bxo.fr {t o : Nat} {v : Value} {w w1 : World} {S : Nat → Prop} (h : Bxo t o v w) (k : Fr S w w1) (hn : ¬ S t) : Bxo t o v w1 := by obtain ⟨T, l, q, e⟩ := h.lc; exact ⟨T, l, q.fr k hn, e⟩
theorem Mp.neB {b t o : Nat} {f : Int → Option Value} {v : Value} {w : World} (h : Mp b f w) (k : Bxo t o v w) : t ≠ b := by obtain ⟨T, l, q, e⟩ := k.lc; exact h.ne q
/-- Marks, plainly: of each byte its line, if there is one. -/
abbrev Mf := Int → Option Int
def vals (f : Mf) : Int → Option Value := fun x => (f x).map (Value.int .i64)
/-- At block t lie marks, their map at block b. -/
structure Mk (t o b : Nat) (f : Mf) (w : World) : Prop where
  box : Bxo t o (.map (some b)) w
  map : Mp b (vals f) w
  dom : ∀ x c, f x = some c → 97 ≤ x ∧ x ≤ 122
/-- Lines are from 1 up to M. -/
def Bd (M : Int) (f : Mf) : Prop := ∀ x c, f x = some c → 1 ≤ c ∧ c ≤ M
def setM (f : Mf) (x : Int) (v : Option Int) : Mf := fun y => if y = x then v else f y
theorem vals_set (f : Mf) (x : Int) (v : Option Int) : vals (setM f x v) = upd (vals f) x (v.map (Value.int .i64)) := by
  funext y; unfold vals setM upd; split <;> rfl
/-- The error of Set. -/
def setE (x line : Int) : Int := if x < 97 ∨ 122 < x then 100 else if line < 1 ∨ 2147483647 < line then 1 else 0
def setF (f : Mf) (x line : Int) : Mf := if setE x line = 0 then setM f x (some line) else f
section
variable {t o b : Nat} {f : Mf} {w w1 : World}
theorem Mk.kp (h : Mk t o b f w) (k : Kp w w1) : Mk t o b f w1 := ⟨h.box.kp k, h.map.kp k, h.dom⟩
theorem Mk.fr {S : Nat → Prop} (h : Mk t o b f w) (k : Fr S w w1) (ht : ¬ S t) (hb : ¬ S b) : Mk t o b f w1 := ⟨h.box.fr k ht, h.map.fr k hb, h.dom⟩
theorem zeroI (w : World) : (zeroValue 3).run Tryz.prog w = .ok (.int .i64 0) w := by kernel_rfl
set_option maxHeartbeats 1000000 in
set_option maxRecDepth 100000 in
theorem new_any (w : World) : Calls Tryz.prog 85 #[] w fun e w' => ∃ t b, e = .returned (.pointer (some ⟨t, 0, none⟩)) ∧ Mk t 0 b (fun _ => none) w' ∧ Kp w w' ∧ w.heap.size ≤ t ∧ w.heap.size ≤ b := by
  have hmm := @run_makeMap Tryz.prog
  go_enter Tryz.func85, Tryz.ntmps85
  go_wp2
  go_ret
  refine ⟨_, w.heap.size, rfl, ⟨⟨_, _, by simpa [alloc_size] using Lc.new (w.alloc (.map #[] 0)) [.map (some w.heap.size)] 78, rfl⟩, ⟨#[], 0, ?_, stamped_empty 0, ⟨by simp, by simp [vals]⟩⟩, by simp⟩, kp_more (kp_alloc _ _) _, ?_, Nat.le_refl _⟩
  · rw [alloc_old _ _ _ (by rw [alloc_size]; omega)]; exact alloc_new _ _
  · simp
set_option maxHeartbeats 4000000 in
set_option maxRecDepth 100000 in
theorem set_any (h : Mk t o b f w) {x : Int} (h0 : 0 ≤ x) (h1 : x < 256) (line : Int) :
    Calls Tryz.prog 18 #[.pointer (some ⟨t, o, none⟩), .int .u8 x, .int .i64 line] w fun e w' => e = .returned (.int .u16 (setE x line)) ∧ Mk t o b (setF f x line) w' ∧ Fr (On b) w w' := by
  have c0 := h.box.cell_
  have HM : Hid (Mk t o b f w) := h
  by_cases q : x < 97 ∨ 122 < x
  · have hE : setE x line = 100 := by unfold setE; rw [if_pos q]
    unfold setF; rw [hE]
    clear hE h
    by_cases q1 : x < 97
    · have d1 : decide (x < 97) = true := decide_eq_true q1
      go_enter Tryz.func18, Tryz.ntmps18
      go_wp2
      go_ret
      exact ⟨rfl, HM.out, Fr.refl _ _⟩
    · have d1 : decide (x < 97) = false := decide_eq_false q1
      have d2 : decide (x > 122) = true := decide_eq_true (by omega)
      have d3 : decide (122 < x) = true := decide_eq_true (by omega)
      go_enter Tryz.func18, Tryz.ntmps18
      go_wp2
      go_ret
      exact ⟨rfl, HM.out, Fr.refl _ _⟩
  · have d1 : decide (x < 97) = false := decide_eq_false (by omega)
    have d2 : decide (x > 122) = false := decide_eq_false (by omega)
    have d3 : decide (122 < x) = false := decide_eq_false (by omega)
    by_cases p : line < 1 ∨ 2147483647 < line
    · have hE : setE x line = 1 := by unfold setE; rw [if_neg q, if_pos p]
      unfold setF; rw [hE]
      clear hE h
      by_cases q1 : line < 1
      · have d4 : decide (line < 1) = true := decide_eq_true q1
        go_enter Tryz.func18, Tryz.ntmps18
        go_wp2
        go_ret
        exact ⟨rfl, HM.out, Fr.refl _ _⟩
      · have d4 : decide (line < 1) = false := decide_eq_false q1
        have d5 : decide (line > 2147483647) = true := decide_eq_true (by omega)
        have d6 : decide (2147483647 < line) = true := decide_eq_true (by omega)
        go_enter Tryz.func18, Tryz.ntmps18
        go_wp2
        go_ret
        exact ⟨rfl, HM.out, Fr.refl _ _⟩
    · have hE : setE x line = 0 := by unfold setE; rw [if_neg q, if_neg p]
      unfold setF; rw [hE]
      have d4 : decide (line < 1) = false := decide_eq_false (by omega)
      have d5 : decide (line > 2147483647) = false := decide_eq_false (by omega)
      have d6 : decide (2147483647 < line) = false := decide_eq_false (by omega)
      obtain ⟨w', hr, hm, hf, hs⟩ := h.map.store h0 h1 Tryz.underlying76 (.int .i64 line)
      have HP : Hid (Mk t o b (setM f x (some line)) w' ∧ Fr (On b) w w') := by
        refine ⟨⟨h.box.fr hf (h.map.neB h.box), by rw [vals_set]; exact hm, fun y c hy => ?_⟩, hf⟩
        unfold setM at hy
        split at hy
        · omega
        · exact h.dom y c hy
      clear hE h hm hf hs q p
      go_enter Tryz.func18, Tryz.ntmps18
      go_wp2
      go_ret
      exact ⟨rfl, HP.out⟩
set_option maxHeartbeats 4000000 in
set_option maxRecDepth 100000 in
theorem get_any (h : Mk t o b f w) {x : Int} (h0 : 0 ≤ x) (h1 : x < 256) :
    Calls Tryz.prog 21 #[.pointer (some ⟨t, o, none⟩), .int .u8 x] w fun e w' => e = .returned (.tuple #[.int .i64 ((f x).getD 0), .int .u16 (if (f x).isSome then 0 else 100)]) ∧ w' = w := by
  have c0 := h.box.cell_
  have hl := h.map.look h0 h1 Tryz.underlying76 (zeroI w) true
  have e1 : (vals f x).getD (.int .i64 0) = .int .i64 ((f x).getD 0) := by unfold vals; cases f x <;> rfl
  have e2 : (vals f x).isSome = (f x).isSome := by unfold vals; cases f x <;> rfl
  rw [e1, e2] at hl
  clear e1 e2
  cases q : f x with
  | none =>
    rw [q] at hl
    simp only [Option.getD_none, Option.isSome_none, if_true] at hl ⊢
    clear h
    go_enter Tryz.func21, Tryz.ntmps21
    go_wp2
    go_ret2
    exact ⟨rfl, rfl⟩
  | some c =>
    rw [q] at hl
    simp only [Option.getD_some, Option.isSome_some, if_true] at hl ⊢
    clear h
    go_enter Tryz.func21, Tryz.ntmps21
    go_wp2
    go_ret2
    exact ⟨rfl, rfl⟩
end
end Go.Proofs.YtaefeakmlgjonaaGreat.Mz
/- Each mark goes where its line goes: follow, Splice, Move. -/
namespace Go.Proofs.YtaefeakmlgjonaaGreat.Mz
open Go.ChangeShapes Go.WideShapes Go.ChangeAt Go.RowKit Go.Maps Go.MapKept
set_option linter.unusedVariables false
set_option linter.unusedSimpArgs false
/-- A course: what a function value answers of a line, whatever else has turned but its own boxes. -/
def Crs (g : Nat) (cs : Array Value) (F : Int → Option Int) (M : Int) (w : World) : Prop :=
  ∀ (x : Int) (w' : World), 1 ≤ x → x ≤ M → w'.heap.size ≥ w.heap.size → (∀ k, k < w.heap.size → (∃ T l, Lc T k l w) → w'.heap[k]? = w.heap[k]?) →
    Calls Tryz.prog g (#[.int .i64 x] ++ cs) w' fun e w2 => (∃ y, e = .returned (.tuple #[.int .i64 y, .bool (F x).isSome]) ∧ ∀ z, F x = some z → y = z) ∧ Kp w' w2
/-- Marks under way: those that are no longer to come have gone. -/
def gone (f : Mf) (F : Int → Option Int) (left : Int → Bool) : Mf := fun x => if left x then f x else (f x).bind F
section
variable {t o b : Nat} {f : Mf} {w w1 : World}
theorem gone_start (f : Mf) (F : Int → Option Int) : gone f F (fun x => (vals f x).isSome) = f := by
  funext x; unfold gone vals
  cases q : f x <;> simp [q]
theorem gone_end (f : Mf) (F : Int → Option Int) {left : Int → Bool} (h : ∀ x, left x = false) : gone f F left = fun x => (f x).bind F := by
  funext x; unfold gone; rw [h]; rfl
theorem gone_step (f : Mf) (F : Int → Option Int) {left : Int → Bool} {x c : Int} (hx : f x = some c) : gone f F (fun y => left y && !decide (y = x)) = setM (gone f F left) x (F c) := by
  funext y; unfold gone setM
  by_cases q : y = x
  · subst q; simp [hx]
  · simp [q]
section
variable {r c : Nat} {m : Int → Option Value} {left : Int → Bool} {ops : Array Oper} {rest : List Oper} {o : Oper} {a : Act} {Q : Exit → Act → World → Prop}
theorem wpl_range (hg : o.guard = none) (x : Operand) (T E : TypeId) (hop : o.op = Op.range T x) (ht : Tryz.prog.underlying T = some (.map 5 E)) (hm : a.eval x = .map (some b)) (h : Mp b m w)
    (hK : ∀ w' c, Rgg b w.heap.size m (fun x => (m x).isSome) c w' → Kp w w' → w'.heap.size = w.heap.size + 1 → wpList Tryz.prog ops Q rest (a.put o.dst (.pointer (some ⟨w.heap.size, 0, none⟩))) w') :
    wpList Tryz.prog ops Q (o :: rest) a w := by
  refine wpList_plain hg fun K' hK' => ?_
  obtain ⟨w', c, hrun, r1, r2, r3⟩ := h.ranged ht
  unfold Oper.wp
  simp [execOp, hop, hm, hrun, Result.andThen]
  exact hK' _ _ (hK w' c r1 r2 r3)
theorem wpl_next (hg : o.guard = none) (x : Operand) (hop : o.op = Op.next x false) (hm : a.eval x = .pointer (some ⟨r, 0, none⟩)) (h : Rgg b r m left c w)
    (h0 : (∀ y, left y = false) → wpList Tryz.prog ops Q rest (a.put o.dst (.tuple #[.bool false])) w)
    (h1 : ∀ y v w' c', 0 ≤ y → y < 256 → left y = true → m y = some v → Rgg b r m (fun z => left z && !decide (z = y)) c' w' → c' < c → Fr (On r) w w' → w'.heap.size = w.heap.size →
      (Instr.entry (.pointer (some ⟨r, 0, none⟩))).run Tryz.prog w' = .ok (.tuple #[.int .u8 y, v]) w' → wpList Tryz.prog ops Q rest (a.put o.dst (.tuple #[.bool true, .int .u8 y, v])) w') :
    wpList Tryz.prog ops Q (o :: rest) a w := by
  refine wpList_plain hg fun K' hK' => ?_
  unfold Oper.wp
  rcases h.next o.type with ⟨h2, hrun⟩ | ⟨y, v, w', c', q1, q2, q3, q4, hrun, q5, q6, q7, q8, q9⟩
  · simp [execOp, hop, hm, hrun, Result.andThen]
    exact hK' _ _ (h0 h2)
  · simp [execOp, hop, hm, hrun, Result.andThen]
    exact hK' _ _ (h1 y v w' c' q1 q2 q3 q4 q5 q6 q7 q8 q9)
theorem wpl_store (hg : o.guard = none) (x y v : Operand) (T E : TypeId) (hop : o.op = Op.mapUpdate T x y v) (ht : Tryz.prog.underlying T = some (.map 5 E)) (hm : a.eval x = .map (some b)) (h : Rgg b r m left c w)
    {k : Int} (hy : a.eval y = .int .u8 k) (k0 : 0 ≤ k) (k1 : k < 256) (hk : m k ≠ none) {u : Value} (hv : a.eval v = u)
    (hK : ∀ w', Rgg b r (upd m k (some u)) left c w' → Fr (On b) w w' → w'.heap.size = w.heap.size → wpList Tryz.prog ops Q rest (a.put o.dst undef) w') :
    wpList Tryz.prog ops Q (o :: rest) a w := by
  refine wpList_plain hg fun K' hK' => ?_
  obtain ⟨w', hrun, r1, r2, r3⟩ := h.store k0 k1 hk ht u
  unfold Oper.wp
  simp [execOp, hop, hm, hy, hv, hrun, Result.andThen]
  exact hK' _ _ (hK w' r1 r2 r3)
theorem wpl_delete (hg : o.guard = none) (x y : Operand) (T E : TypeId) (hop : o.op = Op.call { callee := Callee.builtin Builtin.delete, args := #[x, y], argTypes := #[T, 5] }) (ht : Tryz.prog.underlying T = some (.map 5 E)) (hm : a.eval x = .map (some b)) (h : Rgg b r m left c w)
    {k : Int} (hy : a.eval y = .int .u8 k) (k0 : 0 ≤ k) (k1 : k < 256) (hk : left k = false)
    (hK : ∀ w' c', Rgg b r (upd m k none) left c' w' → c' ≤ c → Fr (On b) w w' → w'.heap.size = w.heap.size → wpList Tryz.prog ops Q rest (a.put o.dst (.tuple #[])) w') :
    wpList Tryz.prog ops Q (o :: rest) a w := by
  refine wpList_plain hg fun K' hK' => ?_
  obtain ⟨w', c', hrun, r1, r2, r3, r4⟩ := h.drop k0 k1 hk ht o.type
  unfold Oper.wp
  simp [execOp, hop, resolve, invoke, builtin, hm, hy, hrun, Result.andThen]
  exact hK' _ _ (hK w' c' r1 r2 r3 r4)
end
/-- While marks go: the box, the range, and what else stays. -/
structure Gng (t o b r : Nat) (f : Mf) (F : Int → Option Int) (w : World) (left : Int → Bool) (c : Nat) (wr : World) : Prop where
  box : Bxo t o (.map (some b)) wr
  rg : Rgg b r (vals (gone f F left)) left c wr
  fr : Fr (On b) w wr
  new : w.heap.size ≤ r
theorem Gng.step {r c c' : Nat} {F : Int → Option Int} {left : Int → Bool} {wr w2 : World} (h : Gng t o b r f F w left c wr) (hr : Rgg b r (vals (gone f F left)) left c' w2) (hf : Fr (On r) wr w2) (ht : t ≠ r) : Gng t o b r f F w left c' w2 :=
  ⟨h.box.fr hf ht, hr, h.fr.trans' hf fun k hk q => absurd hk (by unfold On at q; have := h.new; omega), h.new⟩
theorem Gng.mk_ {r c : Nat} {F : Int → Option Int} {left : Int → Bool} {wr : World} (h : Gng t o b r f F w left c wr) (hl : ∀ x, left x = false) (hd : ∀ x c, f x = some c → 97 ≤ x ∧ x ≤ 122) : Mk t o b (fun x => (f x).bind F) wr := by
  refine ⟨h.box, ?_, fun x c hx => ?_⟩
  · have := h.rg.map; rw [gone_end f F hl] at this; exact this
  · cases q : f x with
    | none => rw [q] at hx; cases hx
    | some d => exact hd x d q
theorem Crs.kp {g : Nat} {cs : Array Value} {F : Int → Option Int} {M : Int} (h : Crs g cs F M w) {wr : World} (hf : Fr (On b) w wr) (hb : Mp b (vals f) w) (x : Int) (x0 : 1 ≤ x) (x1 : x ≤ M) :
    Calls Tryz.prog g (#[.int .i64 x] ++ cs) wr fun e w2 => (∃ y, e = .returned (.tuple #[.int .i64 y, .bool (F x).isSome]) ∧ ∀ z, F x = some z → y = z) ∧ Kp wr w2 :=
  h x wr x0 x1 hf.size fun k hk ⟨T, l, hl⟩ => hf.block k hk (hb.ne hl)
set_option maxHeartbeats 4000000 in
set_option maxRecDepth 100000 in
theorem follow_any (h : Mk t o b f w) {g : Nat} {cs : Array Value} {F : Int → Option Int} {M : Int} (hB : Bd M f) (hF : Crs g cs F M w) (hg : ∀ args w, (callFunc g args).run Tryz.prog w = .ok (.enter g args) w) :
    Calls Tryz.prog 88 #[.pointer (some ⟨t, o, none⟩), .func (.func g) #[] cs] w fun e w' => e = .returned (.tuple #[]) ∧ Mk t o b (fun x => (f x).bind F) w' ∧ Fr (On b) w w' := by
  have c0 := h.box.cell_
  have hm := h.map
  have HF : Hid (∀ wr, Fr (On b) w wr → ∀ x, 1 ≤ x → x ≤ M → Calls Tryz.prog g (#[.int .i64 x] ++ cs) wr fun e w2 => (∃ y, e = .returned (.tuple #[.int .i64 y, .bool (F x).isSome]) ∧ ∀ z, F x = some z → y = z) ∧ Kp wr w2) := fun wr hf x x0 x1 => hF.kp hf hm x x0 x1
  have HD : Hid (∀ x c, f x = some c → 97 ≤ x ∧ x ≤ 122) := h.dom
  have HB : Hid (Bd M f) := hB
  have hlt := h.box.lt
  have HS : Hid (∀ w' c, Rgg b w.heap.size (vals f) (fun x => (vals f x).isSome) c w' → Kp w w' → Gng t o b w.heap.size f F w (fun x => (vals f x).isSome) c w') := fun w' c hr hk =>
    ⟨h.box.kp hk, by rw [gone_start]; exact hr, ⟨hk.os, hk.tape, hk.output, hk.size, fun k q _ => hk.block k q⟩, Nat.le_refl _⟩
  clear h hF hB
  go_enter Tryz.func88, Tryz.ntmps88
  go_wp2_with (first | (at_range; refine wpl_range rfl _ 76 3 rfl Tryz.underlying76 rfl hm ?_; intro w0 n0 hr0 hk0 hs0) | go_in)
  go_frame
  have G0 := HS.out w0 n0 hr0 hk0
  clear HS hr0 hk0 hs0 c0
  go_loopw [4] (fun _ wr => ∃ left c, Hid (Gng t o b w.heap.size f F w left c wr)) (fun _ wr => wr.rangeLeft b w.heap.size)
  case atStart => exact ⟨_, _, G0⟩
  case round =>
    obtain ⟨left, c, HG⟩ := hrel
    have hrg := HG.out.rg
    go_wp2_with (first | (at_next; refine wpl_next rfl _ rfl rfl hrg ?_ ?_) | go_in)
    · intro hl
      have HE : Hid (Mk t o b (fun x => (f x).bind F) wr ∧ Fr (On b) w wr) := ⟨HG.out.mk_ hl HD.out, HG.out.fr⟩
      clear hl hrg HG HF HB HD G0
      go_wp2
      go_end0
      exact ⟨rfl, HE.out⟩
    · intro y v w2 c2 y0 y1 hly hy hr2 hlt2 hf2 hs2 hen
      obtain ⟨ln, rfl, hfy⟩ : ∃ ln, v = .int .i64 ln ∧ f y = some ln := by
        have q : gone f F left y = f y := by unfold gone; rw [hly]; rfl
        unfold vals at hy; rw [q] at hy
        cases p : f y with
        | none => rw [p] at hy; cases hy
        | some z => rw [p] at hy; cases hy; exact ⟨z, rfl, rfl⟩
      have ht : t ≠ w.heap.size := by omega
      have G2 : Hid (Gng t o b w.heap.size f F w left c w2 → True) := fun _ => trivial
      have c2' : w2.cell? ⟨t, o, none⟩ = some (.map (some b)) := (HG.out.box.fr hf2 ht).cell_
      have HW : Hid (Fr (On b) w w2 ∧ Bxo t o (.map (some b)) w2) := ⟨HG.out.fr.trans' hf2 fun k hk q => absurd hk (by unfold On at q; omega), HG.out.box.fr hf2 ht⟩
      obtain ⟨l0, l1⟩ := HB.out y ln hfy
      have HC := HF.out w2 HW.out.1 ln l0 l1
      have HL : Hid (c2 < c ∧ f y = some ln ∧ left y = true) := ⟨hlt2, hfy, hly⟩
      have HR : Hid (wr.rangeLeft b w.heap.size = c) := hrg.left_eq
      clear hlt2 hfy hly hf2 hs2 hrg HG HB hy G2 l0 l1
      have HG2 : Hid (∀ w5, Kp w2 w5 → ∀ w3 c3, Rgg b w.heap.size (upd (vals (gone f F left)) y ((F ln).map (Value.int .i64))) (fun z => left z && !decide (z = y)) c3 w3 → Fr (On b) w5 w3 → c3 ≤ c2 → Gng t o b w.heap.size f F w (fun z => left z && !decide (z = y)) c3 w3 ∧ w3.rangeLeft b w.heap.size < wr.rangeLeft b w.heap.size) := fun w5 k5 w3 c3 hr3 hf3 hle => by
        refine ⟨⟨(HW.out.2.kp k5).fr hf3 (hr2.map.neB HW.out.2), ?_, (HW.out.1.trans (Fr.of_below k5)).trans hf3, Nat.le_refl _⟩, ?_⟩
        · rw [gone_step f F HL.out.2.1, vals_set]; exact hr3
        · rw [hr3.left_eq, HR.out]; have := HL.out.1; omega
      have hmy : vals (gone f F left) y ≠ none := by
        unfold vals gone; rw [HL.out.2.2, if_pos rfl, HL.out.2.1]; simp
      clear HL HR HW
      cases hFl : F ln with
      | none =>
        rw [hFl] at HC HG2
        simp only [Option.isSome_none, Option.map_none] at HC HG2
        clear hFl hmy HF HD G0 hm
        go_wp2_with fail
        refine Calls.mono HC ?_
        rintro e w3 ⟨⟨y', rfl, _⟩, k3⟩
        have c3' := kp_cell k3 c2'
        replace hr2 := hr2.kp k3
        replace HG2 : Hid _ := HG2.out w3 k3
        clear HC c2' hen k3
        go_wp2_with (first | (at_delete; refine wpl_delete rfl _ _ 76 3 rfl Tryz.underlying76 rfl hr2 rfl y0 y1 (by simp) ?_; intro w4 c4 hr4 hle4 hf4 hs4) | go_in)
        go_frame
        have HX := HG2.out w4 c4 hr4 hf4 hle4
        clear HG2 hr4 hf4 hs4 hle4 hr2 c3' hlt ht hg
        go_roundw
        case rel => exact ⟨_, _, HX.1⟩
        case measure => exact HX.2
      | some z =>
        rw [hFl] at HC HG2
        simp only [Option.isSome_some, Option.map_some] at HC HG2
        clear hFl HF HD G0 hm
        go_wp2_with fail
        refine Calls.mono HC ?_
        rintro e w3 ⟨⟨y', rfl, hz⟩, k3⟩
        obtain rfl := hz z rfl
        have c3' := kp_cell k3 c2'
        replace hr2 := hr2.kp k3
        replace HG2 : Hid _ := HG2.out w3 k3
        clear HC hz c2' hen k3
        go_wp2_with (first | (at_mapUpdate; refine wpl_store rfl _ _ _ 76 3 rfl Tryz.underlying76 rfl hr2 rfl y0 y1 hmy rfl ?_; intro w4 hr4 hf4 hs4) | go_in)
        go_frame
        have HX := HG2.out w4 _ hr4 hf4 (Nat.le_refl _)
        clear HG2 hr4 hf4 hs4 hr2 c3' hlt ht hg hmy
        go_roundw
        case rel => exact ⟨_, _, HX.1⟩
        case measure => exact HX.2
end
end Go.Proofs.YtaefeakmlgjonaaGreat.Mz
/- Splice and Move of marks. -/
namespace Go.Proofs.YtaefeakmlgjonaaGreat.Mz
open Go.ChangeShapes Go.WideShapes Go.ChangeAt Go.RowKit Go.Maps Go.MapKept
set_option linter.unusedVariables false
set_option linter.unusedSimpArgs false
/-- Where a line goes, if lines are put in the place of n from a on. -/
def spl (a n l x : Int) : Option Int := if x < a then some x else if x - a < n then (if x - a < l then some x else none) else some (x + l - n)
/-- Where a line goes, if those from a to m and those behind, up to z, change places. -/
def exc (a m z x : Int) : Option Int := if x < a ∨ z < x then some x else if x ≤ m then some (x + z - m) else some (x - m + a - 1)
def spF (f : Mf) (a n l : Int) : Mf := if a < 1 ∨ 2147483647 < a ∨ n < 0 ∨ 2147483647 < n ∨ l < 0 ∨ 2147483647 < l then f else fun x => (f x).bind (spl a n l)
def mvF (f : Mf) (a z d : Int) : Mf := if a < 1 ∨ z < a ∨ 2147483647 < z ∨ d < 0 ∨ 2147483647 < d then f else if z < d then fun x => (f x).bind (exc a z d) else if d < a - 1 then fun x => (f x).bind (exc (d + 1) (a - 1) z) else f
section
variable {t o b : Nat} {f : Mf} {w w1 : World}
theorem spF_bd {M : Int} (h : Bd M f) (a n l : Int) : Bd (M + 2147483647) (spF f a n l) := by
  intro x c hx
  unfold spF at hx
  split at hx
  · have := h x c hx; omega
  · rename_i q
    cases p : f x with
    | none => simp [p] at hx
    | some y =>
      simp only [p] at hx
      have := h x y p
      simp only [Option.bind_some, spl] at hx
      split at hx
      · cases hx; omega
      · split at hx
        · split at hx
          · cases hx; omega
          · cases hx
        · cases hx; omega
theorem mvF_bd {M : Int} (h : Bd M f) (hM : 2147483647 ≤ M) (a z d : Int) : Bd M (mvF f a z d) := by
  have hx : ∀ a m z, 1 ≤ a → a ≤ m + 1 → m ≤ z → z ≤ 2147483647 → Bd M (fun x => (f x).bind (exc a m z)) := by
    intro a m z h1 h2 h3 h4 x c hx
    cases p : f x with
    | none => simp [p] at hx
    | some y =>
      simp only [p] at hx
      have := h x y p
      simp only [Option.bind_some, exc] at hx
      split at hx
      · cases hx; omega
      · split at hx <;> (cases hx; omega)
  unfold mvF
  split
  · exact h
  · split
    · exact hx _ _ _ (by omega) (by omega) (by omega) (by omega)
    · split
      · exact hx _ _ _ (by omega) (by omega) (by omega) (by omega)
      · exact h
set_option maxHeartbeats 4000000 in
set_option maxRecDepth 100000 in
theorem spliced_any (a n l : Int) (w : World) : Calls Tryz.prog 136 #[.int .i64 a, .int .i64 n, .int .i64 l] w fun e w' => ∃ p, p = w.heap.size ∧ e = .returned (.func (.func 158) #[] #[.pointer (some ⟨p, 0, none⟩), .pointer (some ⟨p + 1, 0, none⟩), .pointer (some ⟨p + 2, 0, none⟩)]) ∧ Kp w w' ∧
    Lc 3 p [.int .i64 a] w' ∧ Lc 3 (p + 1) [.int .i64 n] w' ∧ Lc 3 (p + 2) [.int .i64 l] w' := by
  go_enter Tryz.func136, Tryz.ntmps136
  go_wp2
  go_ret
  have s1 : (w.alloc (.cells #[.int .i64 a] 3)).heap.size = w.heap.size + 1 := alloc_size _ _
  have s2 : ((w.alloc (.cells #[.int .i64 a] 3)).alloc (.cells #[.int .i64 n] 3)).heap.size = w.heap.size + 2 := by rw [alloc_size, s1]
  refine ⟨_, rfl, rfl, kp_more (kp_more (kp_alloc _ _) _) _, ?_, ?_, ?_⟩
  · exact ((Lc.new w [.int .i64 a] 3).kp (kp_alloc _ _)).kp (kp_alloc _ _)
  · have := (Lc.new (w.alloc (.cells #[.int .i64 a] 3)) [.int .i64 n] 3).kp (kp_alloc _ (.cells #[.int .i64 l] 3))
    rw [s1] at this; exact this
  · have := Lc.new ((w.alloc (.cells #[.int .i64 a] 3)).alloc (.cells #[.int .i64 n] 3)) [.int .i64 l] 3
    rw [s2] at this; exact this
set_option maxHeartbeats 4000000 in
set_option maxRecDepth 100000 in
theorem exch_any (a n l : Int) (w : World) : Calls Tryz.prog 89 #[.int .i64 a, .int .i64 n, .int .i64 l] w fun e w' => ∃ p, p = w.heap.size ∧ e = .returned (.func (.func 130) #[] #[.pointer (some ⟨p, 0, none⟩), .pointer (some ⟨p + 2, 0, none⟩), .pointer (some ⟨p + 1, 0, none⟩)]) ∧ Kp w w' ∧
    Lc 3 p [.int .i64 a] w' ∧ Lc 3 (p + 1) [.int .i64 n] w' ∧ Lc 3 (p + 2) [.int .i64 l] w' := by
  go_enter Tryz.func89, Tryz.ntmps89
  go_wp2
  go_ret
  have s1 : (w.alloc (.cells #[.int .i64 a] 3)).heap.size = w.heap.size + 1 := alloc_size _ _
  have s2 : ((w.alloc (.cells #[.int .i64 a] 3)).alloc (.cells #[.int .i64 n] 3)).heap.size = w.heap.size + 2 := by rw [alloc_size, s1]
  refine ⟨_, rfl, rfl, kp_more (kp_more (kp_alloc _ _) _) _, ?_, ?_, ?_⟩
  · exact ((Lc.new w [.int .i64 a] 3).kp (kp_alloc _ _)).kp (kp_alloc _ _)
  · have := (Lc.new (w.alloc (.cells #[.int .i64 a] 3)) [.int .i64 n] 3).kp (kp_alloc _ (.cells #[.int .i64 l] 3))
    rw [s1] at this; exact this
  · have := Lc.new ((w.alloc (.cells #[.int .i64 a] 3)).alloc (.cells #[.int .i64 n] 3)) [.int .i64 l] 3
    rw [s2] at this; exact this
/-- The numbers with which a course may be asked. -/
def Few (a n l x : Int) : Prop := 0 ≤ a ∧ a ≤ 4294967296 ∧ 0 ≤ n ∧ n ≤ 4294967296 ∧ 0 ≤ l ∧ l ≤ 4294967296 ∧ 1 ≤ x ∧ x ≤ 1099511627776
set_option maxHeartbeats 4000000 in
set_option maxRecDepth 100000 in
theorem spliced1_any {a n l x : Int} (hf : Few a n l x) {p q r : Nat} (h1 : Lc 3 p [.int .i64 a] w) (h2 : Lc 3 q [.int .i64 n] w) (h3 : Lc 3 r [.int .i64 l] w) :
    Calls Tryz.prog 158 #[.int .i64 x, .pointer (some ⟨p, 0, none⟩), .pointer (some ⟨q, 0, none⟩), .pointer (some ⟨r, 0, none⟩)] w fun e w2 => (∃ y, e = .returned (.tuple #[.int .i64 y, .bool (spl a n l x).isSome]) ∧ ∀ z, spl a n l x = some z → y = z) ∧ Kp w w2 := by
  obtain ⟨f1, f2, f3, f4, f5, f6, f7, f8⟩ := hf
  have c1 := h1.at (j := 0) rfl
  have c2 := h2.at (j := 0) rfl
  have c3 := h3.at (j := 0) rfl
  have w1 : wrap64 (x - a) = x - a := by unfold wrap64; omega
  have w2 : wrap64 (x + l) = x + l := by unfold wrap64; omega
  have w3 : wrap64 (x + l - n) = x + l - n := by unfold wrap64; omega
  unfold spl
  by_cases q1 : x < a
  · rw [if_pos q1]
    have d1 : decide (x - a < 0) = true := decide_eq_true (by omega)
    clear h1 h2 h3 q1
    go_enter Tryz.func158, Tryz.ntmps158
    go_wp2
    go_ret2
    exact ⟨⟨_, rfl, fun z hz => by cases hz; rfl⟩, Below.refl _ _⟩
  · rw [if_neg q1]
    have d1 : decide (x - a < 0) = false := decide_eq_false (by omega)
    by_cases q2 : x - a < n
    · rw [if_pos q2]
      have d2 : decide (x - a < n) = true := decide_eq_true q2
      have HB : Hid (Below w.heap.size w w → True) := fun _ => trivial
      cases d3 : decide (x - a < l) with
      | true =>
        have q3 : x - a < l := of_decide_eq_true d3
        rw [if_pos q3]
        clear h1 h2 h3 q1 q2 q3
        go_enter Tryz.func158, Tryz.ntmps158
        go_wp2
        go_region
        all_goals (go_wp2; go_ret2; exact ⟨⟨_, rfl, fun z hz => by cases hz; rfl⟩, kp_drewN _ _⟩)
      | false =>
        have q3 : ¬ x - a < l := of_decide_eq_false d3
        rw [if_neg q3]
        clear h1 h2 h3 q1 q2 q3
        go_enter Tryz.func158, Tryz.ntmps158
        go_wp2
        go_region
        all_goals (go_wp2; go_ret2; exact ⟨⟨_, rfl, fun z hz => by cases hz⟩, kp_drewN _ _⟩)
    · rw [if_neg q2]
      have d2 : decide (x - a < n) = false := decide_eq_false q2
      clear h1 h2 h3 q1 q2
      go_enter Tryz.func158, Tryz.ntmps158
      go_wp2
      go_ret2
      exact ⟨⟨_, rfl, fun z hz => by cases hz; rfl⟩, Below.refl _ _⟩
set_option maxHeartbeats 4000000 in
set_option maxRecDepth 100000 in
theorem exch1_any {a n l x : Int} (hf : Few a n l x) {p q r : Nat} (h1 : Lc 3 p [.int .i64 a] w) (h2 : Lc 3 q [.int .i64 n] w) (h3 : Lc 3 r [.int .i64 l] w) :
    Calls Tryz.prog 130 #[.int .i64 x, .pointer (some ⟨p, 0, none⟩), .pointer (some ⟨r, 0, none⟩), .pointer (some ⟨q, 0, none⟩)] w fun e w2 => (∃ y, e = .returned (.tuple #[.int .i64 y, .bool (exc a n l x).isSome]) ∧ ∀ z, exc a n l x = some z → y = z) ∧ Kp w w2 := by
  obtain ⟨f1, f2, f3, f4, f5, f6, f7, f8⟩ := hf
  have c1 := h1.at (j := 0) rfl
  have c2 := h2.at (j := 0) rfl
  have c3 := h3.at (j := 0) rfl
  have w1 : wrap64 (x + l) = x + l := by unfold wrap64; omega
  have w2 : wrap64 (x + l - n) = x + l - n := by unfold wrap64; omega
  have w3 : wrap64 (x - n) = x - n := by unfold wrap64; omega
  have w4 : wrap64 (x - n + a) = x - n + a := by unfold wrap64; omega
  have w5 : wrap64 (x - n + a - 1) = x - n + a - 1 := by unfold wrap64; omega
  unfold exc
  by_cases q1 : x < a
  · rw [if_pos (.inl q1)]
    have d1 : decide (x < a) = true := decide_eq_true (by omega)
    clear h1 h2 h3 q1
    go_enter Tryz.func130, Tryz.ntmps130
    go_wp2
    go_ret2
    exact ⟨⟨_, rfl, fun z hz => by cases hz; rfl⟩, Below.refl _ _⟩
  · have d1 : decide (x < a) = false := decide_eq_false q1
    by_cases q2 : l < x
    · rw [if_pos (.inr q2)]
      have d2 : decide (x > l) = true := decide_eq_true q2
      have d3 : decide (l < x) = true := decide_eq_true q2
      clear h1 h2 h3 q1 q2
      go_enter Tryz.func130, Tryz.ntmps130
      go_wp2
      go_ret2
      exact ⟨⟨_, rfl, fun z hz => by cases hz; rfl⟩, Below.refl _ _⟩
    · rw [if_neg (by omega)]
      have d2 : decide (x > l) = false := decide_eq_false q2
      have d3 : decide (l < x) = false := decide_eq_false q2
      by_cases q3 : x ≤ n
      · rw [if_pos q3]
        have d4 : decide (x ≤ n) = true := decide_eq_true q3
        clear h1 h2 h3 q1 q2 q3
        go_enter Tryz.func130, Tryz.ntmps130
        go_wp2
        go_ret2
        exact ⟨⟨_, rfl, fun z hz => by cases hz; rfl⟩, Below.refl _ _⟩
      · rw [if_neg q3]
        have d4 : decide (x ≤ n) = false := decide_eq_false q3
        clear h1 h2 h3 q1 q2 q3
        go_enter Tryz.func130, Tryz.ntmps130
        go_wp2
        go_ret2
        exact ⟨⟨_, rfl, fun z hz => by cases hz; rfl⟩, Below.refl _ _⟩
/-- Both are courses. -/
theorem crs_spl {a n l M : Int} (h1 : 0 ≤ a ∧ a ≤ 4294967296) (h2 : 0 ≤ n ∧ n ≤ 4294967296) (h3 : 0 ≤ l ∧ l ≤ 4294967296) (hM : M ≤ 1099511627776) {p : Nat} (c1 : Lc 3 p [.int .i64 a] w) (c2 : Lc 3 (p + 1) [.int .i64 n] w) (c3 : Lc 3 (p + 2) [.int .i64 l] w) :
    Crs 158 #[.pointer (some ⟨p, 0, none⟩), .pointer (some ⟨p + 1, 0, none⟩), .pointer (some ⟨p + 2, 0, none⟩)] (spl a n l) M w := fun x w' x0 x1 hs hk =>
  spliced1_any ⟨h1.1, h1.2, h2.1, h2.2, h3.1, h3.2, x0, by omega⟩ (c1.heap (hk _ c1.lt ⟨_, _, c1⟩)) (c2.heap (hk _ c2.lt ⟨_, _, c2⟩)) (c3.heap (hk _ c3.lt ⟨_, _, c3⟩))
theorem crs_exc {a n l M : Int} (h1 : 0 ≤ a ∧ a ≤ 4294967296) (h2 : 0 ≤ n ∧ n ≤ 4294967296) (h3 : 0 ≤ l ∧ l ≤ 4294967296) (hM : M ≤ 1099511627776) {p : Nat} (c1 : Lc 3 p [.int .i64 a] w) (c2 : Lc 3 (p + 1) [.int .i64 n] w) (c3 : Lc 3 (p + 2) [.int .i64 l] w) :
    Crs 130 #[.pointer (some ⟨p, 0, none⟩), .pointer (some ⟨p + 2, 0, none⟩), .pointer (some ⟨p + 1, 0, none⟩)] (exc a n l) M w := fun x w' x0 x1 hs hk =>
  exch1_any ⟨h1.1, h1.2, h2.1, h2.2, h3.1, h3.2, x0, by omega⟩ (c1.heap (hk _ c1.lt ⟨_, _, c1⟩)) (c2.heap (hk _ c2.lt ⟨_, _, c2⟩)) (c3.heap (hk _ c3.lt ⟨_, _, c3⟩))
theorem ent34 (args : Array Value) (w : World) : (callFunc 158 args).run Tryz.prog w = .ok (.enter 158 args) w := enters_of Tryz.func158 (by kernel_rfl) rfl args w
theorem ent33 (args : Array Value) (w : World) : (callFunc 130 args).run Tryz.prog w = .ok (.enter 130 args) w := enters_of Tryz.func130 (by kernel_rfl) rfl args w
set_option maxHeartbeats 8000000 in
set_option maxRecDepth 100000 in
theorem splice_any {M : Int} (h : Mk t o b f w) (hB : Bd M f) (hM : M ≤ 1099511627776) (a n l : Int) :
    Calls Tryz.prog 97 #[.pointer (some ⟨t, o, none⟩), .int .i64 a, .int .i64 n, .int .i64 l] w fun e w' => e = .returned (.tuple #[]) ∧ Mk t o b (spF f a n l) w' ∧ Fr (On b) w w' := by
  by_cases q0 : a < 1
  · have HP : Hid (Mk t o b (spF f a n l) w ∧ Fr (On b) w w) := by unfold spF; rw [if_pos (by omega)]; exact ⟨h, Fr.refl _ _⟩
    have g0_0 : decide (a < 1) = true := decide_eq_true (by omega)
    clear h hB hM q0
    go_enter Tryz.func97, Tryz.ntmps97
    go_wp2
    refine bodyPost_ret (results_none rfl _ _ _) rfl ?_
    exact ⟨rfl, HP.out⟩
  by_cases q1 : 2147483647 < a
  · have HP : Hid (Mk t o b (spF f a n l) w ∧ Fr (On b) w w) := by unfold spF; rw [if_pos (by omega)]; exact ⟨h, Fr.refl _ _⟩
    have g0_0 : decide (a < 1) = false := decide_eq_false (by omega)
    have g1_0 : decide (a > 2147483647) = true := decide_eq_true (by omega)
    have g1_1 : decide (2147483647 < a) = true := decide_eq_true (by omega)
    clear h hB hM q0 q1
    go_enter Tryz.func97, Tryz.ntmps97
    go_wp2
    refine bodyPost_ret (results_none rfl _ _ _) rfl ?_
    exact ⟨rfl, HP.out⟩
  by_cases q2 : n < 0
  · have HP : Hid (Mk t o b (spF f a n l) w ∧ Fr (On b) w w) := by unfold spF; rw [if_pos (by omega)]; exact ⟨h, Fr.refl _ _⟩
    have g0_0 : decide (a < 1) = false := decide_eq_false (by omega)
    have g1_0 : decide (a > 2147483647) = false := decide_eq_false (by omega)
    have g1_1 : decide (2147483647 < a) = false := decide_eq_false (by omega)
    have g2_0 : decide (n < 0) = true := decide_eq_true (by omega)
    clear h hB hM q0 q1 q2
    go_enter Tryz.func97, Tryz.ntmps97
    go_wp2
    refine bodyPost_ret (results_none rfl _ _ _) rfl ?_
    exact ⟨rfl, HP.out⟩
  by_cases q3 : 2147483647 < n
  · have HP : Hid (Mk t o b (spF f a n l) w ∧ Fr (On b) w w) := by unfold spF; rw [if_pos (by omega)]; exact ⟨h, Fr.refl _ _⟩
    have g0_0 : decide (a < 1) = false := decide_eq_false (by omega)
    have g1_0 : decide (a > 2147483647) = false := decide_eq_false (by omega)
    have g1_1 : decide (2147483647 < a) = false := decide_eq_false (by omega)
    have g2_0 : decide (n < 0) = false := decide_eq_false (by omega)
    have g3_0 : decide (n > 2147483647) = true := decide_eq_true (by omega)
    have g3_1 : decide (2147483647 < n) = true := decide_eq_true (by omega)
    clear h hB hM q0 q1 q2 q3
    go_enter Tryz.func97, Tryz.ntmps97
    go_wp2
    refine bodyPost_ret (results_none rfl _ _ _) rfl ?_
    exact ⟨rfl, HP.out⟩
  by_cases q4 : l < 0
  · have HP : Hid (Mk t o b (spF f a n l) w ∧ Fr (On b) w w) := by unfold spF; rw [if_pos (by omega)]; exact ⟨h, Fr.refl _ _⟩
    have g0_0 : decide (a < 1) = false := decide_eq_false (by omega)
    have g1_0 : decide (a > 2147483647) = false := decide_eq_false (by omega)
    have g1_1 : decide (2147483647 < a) = false := decide_eq_false (by omega)
    have g2_0 : decide (n < 0) = false := decide_eq_false (by omega)
    have g3_0 : decide (n > 2147483647) = false := decide_eq_false (by omega)
    have g3_1 : decide (2147483647 < n) = false := decide_eq_false (by omega)
    have g4_0 : decide (l < 0) = true := decide_eq_true (by omega)
    clear h hB hM q0 q1 q2 q3 q4
    go_enter Tryz.func97, Tryz.ntmps97
    go_wp2
    refine bodyPost_ret (results_none rfl _ _ _) rfl ?_
    exact ⟨rfl, HP.out⟩
  by_cases q5 : 2147483647 < l
  · have HP : Hid (Mk t o b (spF f a n l) w ∧ Fr (On b) w w) := by unfold spF; rw [if_pos (by omega)]; exact ⟨h, Fr.refl _ _⟩
    have g0_0 : decide (a < 1) = false := decide_eq_false (by omega)
    have g1_0 : decide (a > 2147483647) = false := decide_eq_false (by omega)
    have g1_1 : decide (2147483647 < a) = false := decide_eq_false (by omega)
    have g2_0 : decide (n < 0) = false := decide_eq_false (by omega)
    have g3_0 : decide (n > 2147483647) = false := decide_eq_false (by omega)
    have g3_1 : decide (2147483647 < n) = false := decide_eq_false (by omega)
    have g4_0 : decide (l < 0) = false := decide_eq_false (by omega)
    have g5_0 : decide (l > 2147483647) = true := decide_eq_true (by omega)
    have g5_1 : decide (2147483647 < l) = true := decide_eq_true (by omega)
    clear h hB hM q0 q1 q2 q3 q4 q5
    go_enter Tryz.func97, Tryz.ntmps97
    go_wp2
    refine bodyPost_ret (results_none rfl _ _ _) rfl ?_
    exact ⟨rfl, HP.out⟩
  have g0_0 : decide (a < 1) = false := decide_eq_false (by omega)
  have g1_0 : decide (a > 2147483647) = false := decide_eq_false (by omega)
  have g1_1 : decide (2147483647 < a) = false := decide_eq_false (by omega)
  have g2_0 : decide (n < 0) = false := decide_eq_false (by omega)
  have g3_0 : decide (n > 2147483647) = false := decide_eq_false (by omega)
  have g3_1 : decide (2147483647 < n) = false := decide_eq_false (by omega)
  have g4_0 : decide (l < 0) = false := decide_eq_false (by omega)
  have g5_0 : decide (l > 2147483647) = false := decide_eq_false (by omega)
  have g5_1 : decide (2147483647 < l) = false := decide_eq_false (by omega)
  have HC : Hid (∀ p W, p = w.heap.size → Kp w W → Lc 3 p [.int .i64 a] W → Lc 3 (p + 1) [.int .i64 n] W → Lc 3 (p + 2) [.int .i64 l] W → Calls Tryz.prog 88 #[.pointer (some ⟨t, o, none⟩), .func (.func 158) #[] #[.pointer (some ⟨p, 0, none⟩), .pointer (some ⟨p + 1, 0, none⟩), .pointer (some ⟨p + 2, 0, none⟩)]] W fun e w' => e = .returned (.tuple #[]) ∧ Mk t o b (spF f a n l) w' ∧ Fr (On b) w w') := fun p W hp hk c1 c2 c3 => by
    refine (follow_any (h.kp hk) hB (crs_spl (by omega) (by omega) (by omega) hM c1 c2 c3) ent34).mono ?_
    rintro e w' ⟨he, hm, hf⟩
    refine ⟨he, ?_, (Fr.of_below hk).trans hf⟩
    unfold spF; rw [if_neg (by omega)]; exact hm
  clear h hB hM q0 q1 q2 q3 q4 q5
  go_enter Tryz.func97, Tryz.ntmps97
  go_wp2_with fail
  refine Calls.mono (spliced_any a n l w) ?_
  rintro e w2 ⟨p, hp, rfl, hk, c1, c2, c3⟩
  have HD := HC.out p w2 hp hk c1 c2 c3
  clear HC hp hk c1 c2 c3
  go_wp2_with fail
  refine Calls.mono HD ?_
  rintro e w3 ⟨rfl, hP⟩
  have HP : Hid (Mk t o b (spF f a n l) w3 ∧ Fr (On b) w w3) := hP
  clear hP HD
  go_wp2
  go_end0
  exact ⟨rfl, HP.out⟩
set_option maxHeartbeats 8000000 in
set_option maxRecDepth 100000 in
theorem move_any {M : Int} (h : Mk t o b f w) (hB : Bd M f) (hM : M ≤ 1099511627776) (a z d : Int) :
    Calls Tryz.prog 47 #[.pointer (some ⟨t, o, none⟩), .int .i64 a, .int .i64 z, .int .i64 d] w fun e w' => e = .returned (.tuple #[]) ∧ Mk t o b (mvF f a z d) w' ∧ Fr (On b) w w' := by
  by_cases q0 : a < 1
  · have HP : Hid (Mk t o b (mvF f a z d) w ∧ Fr (On b) w w) := by unfold mvF; rw [if_pos (by omega)]; exact ⟨h, Fr.refl _ _⟩
    have g0_0 : decide (a < 1) = true := decide_eq_true (by omega)
    clear h hB hM q0
    go_enter Tryz.func47, Tryz.ntmps47
    go_wp2
    refine bodyPost_ret (results_none rfl _ _ _) rfl ?_
    exact ⟨rfl, HP.out⟩
  by_cases q1 : z < a
  · have HP : Hid (Mk t o b (mvF f a z d) w ∧ Fr (On b) w w) := by unfold mvF; rw [if_pos (by omega)]; exact ⟨h, Fr.refl _ _⟩
    have g0_0 : decide (a < 1) = false := decide_eq_false (by omega)
    have g1_0 : decide (z < a) = true := decide_eq_true (by omega)
    clear h hB hM q0 q1
    go_enter Tryz.func47, Tryz.ntmps47
    go_wp2
    refine bodyPost_ret (results_none rfl _ _ _) rfl ?_
    exact ⟨rfl, HP.out⟩
  by_cases q2 : 2147483647 < z
  · have HP : Hid (Mk t o b (mvF f a z d) w ∧ Fr (On b) w w) := by unfold mvF; rw [if_pos (by omega)]; exact ⟨h, Fr.refl _ _⟩
    have g0_0 : decide (a < 1) = false := decide_eq_false (by omega)
    have g1_0 : decide (z < a) = false := decide_eq_false (by omega)
    have g2_0 : decide (z > 2147483647) = true := decide_eq_true (by omega)
    have g2_1 : decide (2147483647 < z) = true := decide_eq_true (by omega)
    clear h hB hM q0 q1 q2
    go_enter Tryz.func47, Tryz.ntmps47
    go_wp2
    refine bodyPost_ret (results_none rfl _ _ _) rfl ?_
    exact ⟨rfl, HP.out⟩
  by_cases q3 : d < 0
  · have HP : Hid (Mk t o b (mvF f a z d) w ∧ Fr (On b) w w) := by unfold mvF; rw [if_pos (by omega)]; exact ⟨h, Fr.refl _ _⟩
    have g0_0 : decide (a < 1) = false := decide_eq_false (by omega)
    have g1_0 : decide (z < a) = false := decide_eq_false (by omega)
    have g2_0 : decide (z > 2147483647) = false := decide_eq_false (by omega)
    have g2_1 : decide (2147483647 < z) = false := decide_eq_false (by omega)
    have g3_0 : decide (d < 0) = true := decide_eq_true (by omega)
    clear h hB hM q0 q1 q2 q3
    go_enter Tryz.func47, Tryz.ntmps47
    go_wp2
    refine bodyPost_ret (results_none rfl _ _ _) rfl ?_
    exact ⟨rfl, HP.out⟩
  by_cases q4 : 2147483647 < d
  · have HP : Hid (Mk t o b (mvF f a z d) w ∧ Fr (On b) w w) := by unfold mvF; rw [if_pos (by omega)]; exact ⟨h, Fr.refl _ _⟩
    have g0_0 : decide (a < 1) = false := decide_eq_false (by omega)
    have g1_0 : decide (z < a) = false := decide_eq_false (by omega)
    have g2_0 : decide (z > 2147483647) = false := decide_eq_false (by omega)
    have g2_1 : decide (2147483647 < z) = false := decide_eq_false (by omega)
    have g3_0 : decide (d < 0) = false := decide_eq_false (by omega)
    have g4_0 : decide (d > 2147483647) = true := decide_eq_true (by omega)
    have g4_1 : decide (2147483647 < d) = true := decide_eq_true (by omega)
    clear h hB hM q0 q1 q2 q3 q4
    go_enter Tryz.func47, Tryz.ntmps47
    go_wp2
    refine bodyPost_ret (results_none rfl _ _ _) rfl ?_
    exact ⟨rfl, HP.out⟩
  have g0_0 : decide (a < 1) = false := decide_eq_false (by omega)
  have g1_0 : decide (z < a) = false := decide_eq_false (by omega)
  have g2_0 : decide (z > 2147483647) = false := decide_eq_false (by omega)
  have g2_1 : decide (2147483647 < z) = false := decide_eq_false (by omega)
  have g3_0 : decide (d < 0) = false := decide_eq_false (by omega)
  have g4_0 : decide (d > 2147483647) = false := decide_eq_false (by omega)
  have g4_1 : decide (2147483647 < d) = false := decide_eq_false (by omega)
  have u1 : wrap64 (a - 1) = a - 1 := by unfold wrap64; omega
  have u2 : wrap64 (d + 1) = d + 1 := by unfold wrap64; omega
  by_cases q5 : z < d
  · have e1 : decide (d > z) = true := decide_eq_true q5
    have e2 : decide (z < d) = true := decide_eq_true q5
    have HC : Hid (∀ p W, p = w.heap.size → Kp w W → Lc 3 p [.int .i64 (a)] W → Lc 3 (p + 1) [.int .i64 (z)] W → Lc 3 (p + 2) [.int .i64 d] W → Calls Tryz.prog 88 #[.pointer (some ⟨t, o, none⟩), .func (.func 130) #[] #[.pointer (some ⟨p, 0, none⟩), .pointer (some ⟨p + 2, 0, none⟩), .pointer (some ⟨p + 1, 0, none⟩)]] W fun e w' => e = .returned (.tuple #[]) ∧ Mk t o b (mvF f a z d) w' ∧ Fr (On b) w w') := fun p W hp hk c1 c2 c3 => by
      refine (follow_any (h.kp hk) hB (crs_exc (by omega) (by omega) (by omega) hM c1 c2 c3) ent33).mono ?_
      rintro e w' ⟨he, hm, hf⟩
      refine ⟨he, ?_, (Fr.of_below hk).trans hf⟩
      unfold mvF; rw [if_neg (by omega), if_pos q5]; exact hm
    clear h hB hM q0 q1 q2 q3 q4 q5
    go_enter Tryz.func47, Tryz.ntmps47
    go_wp2_with fail
    refine Calls.mono (exch_any (a) (z) d w) ?_
    rintro e w2 ⟨p, hp, rfl, hk, c1, c2, c3⟩
    have HD := HC.out p w2 hp hk c1 c2 c3
    clear HC hp hk c1 c2 c3
    go_wp2_with fail
    refine Calls.mono HD ?_
    rintro e w3 ⟨rfl, hP⟩
    have HP : Hid (Mk t o b (mvF f a z d) w3 ∧ Fr (On b) w w3) := hP
    clear hP HD
    go_wp2
    go_end0
    exact ⟨rfl, HP.out⟩
  · have e1 : decide (d > z) = false := decide_eq_false q5
    have e2 : decide (z < d) = false := decide_eq_false q5
    by_cases q6 : d < a - 1
    · have e3 : decide (d < a - 1) = true := decide_eq_true q6
      have HC : Hid (∀ p W, p = w.heap.size → Kp w W → Lc 3 p [.int .i64 (d + 1)] W → Lc 3 (p + 1) [.int .i64 (a - 1)] W → Lc 3 (p + 2) [.int .i64 z] W → Calls Tryz.prog 88 #[.pointer (some ⟨t, o, none⟩), .func (.func 130) #[] #[.pointer (some ⟨p, 0, none⟩), .pointer (some ⟨p + 2, 0, none⟩), .pointer (some ⟨p + 1, 0, none⟩)]] W fun e w' => e = .returned (.tuple #[]) ∧ Mk t o b (mvF f a z d) w' ∧ Fr (On b) w w') := fun p W hp hk c1 c2 c3 => by
        refine (follow_any (h.kp hk) hB (crs_exc (by omega) (by omega) (by omega) hM c1 c2 c3) ent33).mono ?_
        rintro e w' ⟨he, hm, hf⟩
        refine ⟨he, ?_, (Fr.of_below hk).trans hf⟩
        unfold mvF; rw [if_neg (by omega), if_neg q5, if_pos q6]; exact hm
      clear h hB hM q0 q1 q2 q3 q4 q5 q6
      go_enter Tryz.func47, Tryz.ntmps47
      go_wp2_with fail
      refine Calls.mono (exch_any (d + 1) (a - 1) z w) ?_
      rintro e w2 ⟨p, hp, rfl, hk, c1, c2, c3⟩
      have HD := HC.out p w2 hp hk c1 c2 c3
      clear HC hp hk c1 c2 c3
      go_wp2_with fail
      refine Calls.mono HD ?_
      rintro e w3 ⟨rfl, hP⟩
      have HP : Hid (Mk t o b (mvF f a z d) w3 ∧ Fr (On b) w w3) := hP
      clear hP HD
      go_wp2
      go_end0
      exact ⟨rfl, HP.out⟩
    · have e3 : decide (d < a - 1) = false := decide_eq_false q6
      have HP : Hid (Mk t o b (mvF f a z d) w ∧ Fr (On b) w w) := by unfold mvF; rw [if_neg (by omega), if_neg q5, if_neg q6]; exact ⟨h, Fr.refl _ _⟩
      clear h hB hM q0 q1 q2 q3 q4 q5 q6
      go_enter Tryz.func47, Tryz.ntmps47
      go_wp2
      go_end0
      exact ⟨rfl, HP.out⟩
end
end Go.Proofs.YtaefeakmlgjonaaGreat.Mz
/- A copy; are two lists of marks the same? -/
namespace Go.Proofs.YtaefeakmlgjonaaGreat.Mz
open Go.ChangeShapes Go.WideShapes Go.ChangeAt Go.RowKit Go.Maps Go.MapKept
set_option linter.unusedVariables false
set_option linter.unusedSimpArgs false
set_option maxRecDepth 100000
section
variable {t o b : Nat} {f : Mf} {w w1 : World}
set_option maxHeartbeats 2000000 in
theorem clone_any {m : Int → Option Value} (h : Mp b m w) : Calls Tryz.prog 151 #[.map (some b)] w fun e w' => ∃ b', e = .returned (.map (some b')) ∧ Mp b' m w' ∧ Kp w w' ∧ w.heap.size ≤ b' := by
  obtain ⟨es, clock, hb, S, H⟩ := h
  have hq := fun w => run_eql_map_nil_sl (P := Tryz.prog) w 76 _ _ (some b) Tryz.underlying76
  go_enter Tryz.func151, Tryz.ntmps151
  go_wp2
  rw [run_callFunc_extern Tryz.func180 (by kernel_rfl) (by kernel_rfl) (by kernel_rfl) (e := Extern.MapsClone.clone) (by kernel_rfl), run_maps_clone_sl w 76 hb]
  simp only [Result.andThen]
  rw [Oper.upon_value]
  go_wp2
  rw [run_typeAssert_map_sl _ 76 20 _ _ _ Tryz.underlying76]
  simp only [Result.andThen]
  rw [Oper.upon_value]
  go_wp2
  go_ret
  exact ⟨w.heap.size, rfl, ⟨es, clock, alloc_new _ _, S, H⟩, kp_alloc _ _, Nat.le_refl _⟩
set_option maxHeartbeats 2000000 in
theorem copy_any (h : Mk t o b f w) : Calls Tryz.prog 119 #[.pointer (some ⟨t, o, none⟩)] w fun e w' => ∃ t' b', e = .returned (.pointer (some ⟨t', 0, none⟩)) ∧ Mk t' 0 b' f w' ∧ Kp w w' ∧ w.heap.size ≤ t' ∧ w.heap.size ≤ b' := by
  have c0 := h.box.cell_
  have HM : Hid (Mk t o b f w) := h
  clear h
  go_enter Tryz.func119, Tryz.ntmps119
  go_wp2_with fail
  refine Calls.mono (clone_any HM.out.map) ?_
  rintro e w2 ⟨b', rfl, h2, k2, hb'⟩
  have HX : Hid (Mk w2.heap.size 0 b' f (w2.alloc (.cells #[.map (some b')] 78)) ∧ Kp w (w2.alloc (.cells #[.map (some b')] 78)) ∧ w.heap.size ≤ w2.heap.size ∧ w.heap.size ≤ b') :=
    ⟨⟨⟨_, _, Lc.new w2 [.map (some b')] 78, rfl⟩, h2.kp (kp_alloc _ _), HM.out.dom⟩, kp_more k2 _, k2.size, hb'⟩
  clear h2 k2 hb' HM
  go_wp2_with fail
  go_ret
  exact ⟨_, b', rfl, HX.out⟩
end
end Go.Proofs.YtaefeakmlgjonaaGreat.Mz
/- A text that is worked on, in memory: its tree of lines, its marks, its states, what is open; what changes of the one leave of the others. -/
namespace Go.Proofs.YtaefeakmlgjonaaGreat
open Go.ChangeShapes Go.WideShapes Go.ChangeAt Go.RowKit Go.Maps Go.MapKept
set_option linter.unusedVariables false
set_option linter.unusedSimpArgs false
set_option maxRecDepth 100000
/-- Blocks of a tree of lines are of its types. -/
def OT (o : Tz.Own) (w : World) : Prop := ∀ k, o k ≠ .free → ∃ cur e, w.heap[k]? = some (.cells cur e (0, 0)) ∧ (e = 144 ∨ e = 141 ∨ e = 3 ∨ e = 9)
/-- What else a text has that is turned. -/
def TB : Obj → Prop
  | .map _ _ => True
  | .cells _ e _ => e = 119 ∨ e = 123 ∨ e = 86 ∨ e = 89
  | _ => False
section
variable {o o' o'' : Tz.Own} {w w' w'' : World} {t m B : Nat} {ls : List ByteArray}
theorem tz_obj {g : Tz.Tag} {e : TypeId} {size n : Nat} {v : Value} {xs : List Value} (h : Tz.Row o w g e size v n xs) {k : Nat} (hk : v.ownBlock = some k) : ∃ cur, w.heap[k]? = some (.cells cur e (0, 0)) := by
  rcases h.1.2 with ⟨z, _⟩ | ⟨b, cap, cur, z, _, hg, _⟩
  · rw [z] at hk; cases hk
  · rw [z] at hk; simp only [Value.ownBlock, Option.some.injEq] at hk; subst hk; exact ⟨cur, hg⟩
theorem tz_trim (h : Tz.Tr o w t ls m) : ∃ o', Tz.Tr o' w t ls m ∧ (∀ k, o k = .free → o' k = .free) ∧ OT o' w := by
  classical
  obtain ⟨s, vn, vg, d, h1, h2, h3⟩ := h
  obtain ⟨us, hus⟩ : ∃ us : Nat → Prop, us = fun k => k = t ∨ vn.ownBlock = some k ∨ vg.ownBlock = some k ∨ ∃ (i : Nat) (n : Tz.Node), s.ns[i]? = some n ∧ (n.vl.ownBlock = some k ∨ n.vk.ownBlock = some k) := ⟨_, rfl⟩
  have hU : ∀ k, us k ↔ (k = t ∨ vn.ownBlock = some k ∨ vg.ownBlock = some k ∨ ∃ (i : Nat) (n : Tz.Node), s.ns[i]? = some n ∧ (n.vl.ownBlock = some k ∨ n.vk.ownBlock = some k)) := fun k => by rw [hus]
  have hin : ∀ k, us k → (if us k then o k else Tz.Tag.free) = o k := fun k hk => if_pos hk
  refine ⟨fun k => if us k then o k else .free, ⟨s, vn, vg, d, ⟨?_, h1.tree, h1.nodes.own fun k hk => hin k ((hU k).2 (.inr (.inl hk))), h1.gone.own fun k hk => hin k ((hU k).2 (.inr (.inr (.inl hk)))), fun i n hi hx => (h1.lines i n hi hx).own fun k hk => hin k ((hU k).2 (.inr (.inr (.inr ⟨i, n, hi, .inl hk⟩)))), fun i n hi hx => (h1.kids i n hi hx).own fun k hk => hin k ((hU k).2 (.inr (.inr (.inr ⟨i, n, hi, .inr hk⟩)))), fun k hk => ?_⟩, h2, h3⟩, fun k hk => ?_, fun k hk => ?_⟩
  · show (if us t then o t else .free) = _
    rw [hin t ((hU t).2 (.inl rfl))]; exact h1.ot
  · refine h1.lt k fun e => hk ?_
    show (if us k then o k else .free) = _
    split
    · exact e
    · rfl
  · show (if us k then o k else .free) = _
    split
    · exact hk
    · rfl
  · have hu : us k := by
      by_cases q : us k
      · exact q
      · exact absurd (if_neg q) hk
    rcases (hU k).1 hu with rfl | q | q | ⟨i, n, hi, q | q⟩
    · exact ⟨_, _, h1.tree, .inl rfl⟩
    · obtain ⟨cur, q⟩ := tz_obj h1.nodes q; exact ⟨cur, _, q, .inr (.inl rfl)⟩
    · obtain ⟨cur, q⟩ := tz_obj h1.gone q; exact ⟨cur, _, q, .inr (.inr (.inl rfl))⟩
    · obtain ⟨cur, q⟩ := tz_obj (h1.lines i n hi (by simp)) q; exact ⟨cur, _, q, .inr (.inr (.inr rfl))⟩
    · obtain ⟨cur, q⟩ := tz_obj (h1.kids i n hi (by simp)) q; exact ⟨cur, _, q, .inr (.inr (.inl rfl))⟩
theorem tz_after (h : Tz.After o w t ls m w') : ∃ o', Tz.Tr o' w' t ls m ∧ Tz.Keeps o o' w w' ∧ OT o' w' := by
  obtain ⟨o1, h1, k1⟩ := h
  obtain ⟨o2, h2, s2, t2⟩ := tz_trim h1
  exact ⟨o2, h2, ⟨k1.os, k1.tape, k1.output, k1.size, k1.block, fun k hk hf => s2 k (k1.own k hk hf)⟩, t2⟩
theorem tz_same (h : Tz.Tr o w t ls m) (hz : w.heap.size ≤ w'.heap.size) (hs : ∀ k, o k ≠ .free → w'.heap[k]? = w.heap[k]?) : Tz.Tr o w' t ls m := by
  obtain ⟨s, vn, vg, d, h1, h2, h3⟩ := h
  have rs : ∀ {g : Tz.Tag} {e : TypeId} {size n : Nat} {v : Value} {xs : List Value}, Tz.Row o w g e size v n xs → g ≠ .free → Tz.Row o w' g e size v n xs := fun hr hg => hr.same fun k hk => hs k (by rw [hr.2 k hk]; exact hg)
  exact ⟨s, vn, vg, d, ⟨h1.ot, by rw [hs t (by rw [h1.ot]; simp)]; exact h1.tree, rs h1.nodes (by simp), rs h1.gone (by simp), fun i n hi hx => rs (h1.lines i n hi hx) (by simp), fun i n hi hx => rs (h1.kids i n hi hx) (by simp), fun k hk => Nat.lt_of_lt_of_le (h1.lt k hk) hz⟩, h2, h3⟩
theorem tz_lt (h : Tz.Tr o w t ls m) {k : Nat} (hk : o k ≠ .free) : k < w.heap.size := by obtain ⟨s, vn, vg, d, h1, _⟩ := h; exact h1.lt k hk
theorem tz_new (h : Tz.Tr o w t ls m) {k : Nat} (hk : w.heap.size ≤ k) : o k = .free := by
  rcases Classical.em (o k = .free) with q | q
  · exact q
  · have := tz_lt h q; omega
theorem OT.same (h : OT o w) (hs : ∀ k, o k ≠ .free → w'.heap[k]? = w.heap[k]?) : OT o w' := fun k hk => by rw [hs k hk]; exact h k hk
/-- Nothing else of a text's is a block of its tree. -/
theorem OT.tb (h : OT o w) {k : Nat} {ob : Obj} (hk : w.heap[k]? = some ob) (hT : TB ob) : o k = .free := by
  rcases Classical.em (o k = .free) with q | q
  · exact q
  · obtain ⟨cur, e, h1, h2⟩ := h k q
    rw [hk] at h1; cases h1
    rcases hT with z | z | z | z <;> rcases h2 with y | y | y | y <;> (rw [y] at z; exact absurd z (by decide))
end
theorem tb_of_tp {ob : Obj} (h : TP ob) : TB ob := by
  cases ob with
  | map es c => trivial
  | cells a e f => rcases h with h | h
                   · exact .inl h
                   · exact .inr (.inl h)
  | _ => exact h.elim
section
variable {Q Q' : Nat → Prop} {B C t p b : Nat} {m : Tr} {s : St} {T : Int → List ByteArray} {w w1 : World} {S : Nat → Prop}
theorem Bx.frQ (h : Bx Q B C p s w) (k : Fr S w w1) (hp : ¬ S p) (hd : ∀ j cur fr, w.heap[j]? = some (.cells cur 89 fr) → j < C → ¬ S j) (hs : ∀ j cur fr, w.heap[j]? = some (.cells cur 9 fr) → Q j → ¬ S j) : Bx Q B C p s w1 := by
  obtain ⟨h1, v, h2, ⟨cs, r1, r2⟩, h4⟩ := h
  refine ⟨h1, v, h2.fr k hp, ⟨cs, row_fr r1 k fun j hj => ?_, r2.imp fun u ls r => ⟨row_fr r.1 k fun j hj => ?_, r.2⟩⟩, h4⟩
  · have := h4 j hj
    rcases r1.2 with ⟨z, _⟩ | ⟨g, cap, cur, z, hb, hg, _⟩
    · rw [z] at hj; cases hj
    · rw [z] at hj; simp only [Value.ownBlock, Option.some.injEq] at hj; subst hj; exact hd _ _ _ hg this
  · have := r.2 j hj
    rcases r.1.2 with ⟨z, _⟩ | ⟨g, cap, cur, z, hb, hg, _⟩
    · rw [z] at hj; cases hj
    · rw [z] at hj; simp only [Value.ownBlock, Option.some.injEq] at hj; subst hj; exact hs _ _ _ hg this
theorem Tw.frQ (h : Tw Q B C t m w) (k : Fr S w w1) (hn : look m.L m.now ≠ none) (h1 : ∀ j ob, w.heap[j]? = some ob → TP ob → ¬ S j) (h2 : ∀ j cur fr, w.heap[j]? = some (.cells cur 89 fr) → j < C → ¬ S j) (h3 : ∀ j cur fr, w.heap[j]? = some (.cells cur 9 fr) → Q j → ¬ S j) : Tw Q B C t m w1 := by
  obtain ⟨b, q, h⟩ := h
  obtain ⟨es, c, hb, _⟩ := h.map
  refine ⟨b, q, h.lt, h.lb, h.box.fr k (h1 _ _ h.box (.inl rfl)), h.map.fr k (h1 _ _ hb (h.key hn hb)), fun x s hx => ?_, h.inj⟩
  have hx' := h.st x s hx
  obtain ⟨_, v, hv, _⟩ := h.st x s hx
  exact hx'.frQ k (h1 _ _ hv (.inr rfl)) h2 h3
theorem Tw.monoQ (h : Tw Q B C t m w) (hq : ∀ j, j < w.heap.size → Q j → Q' j) : Tw Q' B C t m w := by
  obtain ⟨b, q, h⟩ := h
  refine ⟨b, q, h.lt, h.lb, h.box, h.map, fun x s hx => ?_, h.inj⟩
  obtain ⟨h1, v, h2, ⟨cs, r1, r2⟩, h4⟩ := h.st x s hx
  exact ⟨h1, v, h2, ⟨cs, r1, r2.imp fun u ls r => ⟨r.1, fun j hj => hq j (r.1.lt j hj).2 (r.2 j hj)⟩⟩, h4⟩
theorem StT.frQ (h : StT Q B C t m T w) (k : Fr S w w1) (h1 : ∀ j ob, w.heap[j]? = some ob → TP ob → ¬ S j) (h2 : ∀ j cur fr, w.heap[j]? = some (.cells cur 89 fr) → j < C → ¬ S j) (h3 : ∀ j cur fr, w.heap[j]? = some (.cells cur 9 fr) → Q j → ¬ S j) : StT Q B C t m T w1 :=
  ⟨h.tw.frQ k h.inw.inv.nw h1 h2 h3, Nat.le_trans h.hC k.size, Nat.le_trans h.hB k.size, h.inw, h.mo, h.ln, h.nx, h.tx, h.sm⟩
theorem StT.monoQ (h : StT Q B C t m T w) (hq : ∀ j, j < w.heap.size → Q j → Q' j) : StT Q' B C t m T w := ⟨h.tw.monoQ hq, h.hC, h.hB, h.inw, h.mo, h.ln, h.nx, h.tx, h.sm⟩
/-- A map of marks is none that package undo turns. -/
theorem mz_tp {f : Int → Option Value} (h : Mz.Mp b f w) {ob : Obj} (hb : w.heap[b]? = some ob) : ¬ TP ob := by
  obtain ⟨es, c, h1, _, H⟩ := h
  rw [hb] at h1; cases h1
  rintro ⟨e, he, x, hx⟩
  obtain ⟨y, hy, _⟩ := H.on e he
  rw [hx] at hy; cases hy
theorem mz_tb {f : Int → Option Value} (h : Mz.Mp b f w) : ∃ ob, w.heap[b]? = some ob ∧ TB ob := by
  obtain ⟨es, c, h1, _⟩ := h
  exact ⟨_, h1, trivial⟩
end
end Go.Proofs.YtaefeakmlgjonaaGreat
/- A text that is worked on: what it is, and what is left of it where a part of it is turned. -/
namespace Go.Proofs.YtaefeakmlgjonaaGreat
open Go.ChangeShapes Go.WideShapes Go.ChangeAt Go.RowKit Go.Maps Go.MapKept
set_option linter.unusedVariables false
set_option linter.unusedSimpArgs false
set_option maxRecDepth 100000
/-- A text, plainly: its lines, marks, cursor; its states and their texts; what is open; what is gone back to. -/
structure BS where
  ls : List ByteArray
  mf : Mz.Mf
  cur : Int
  m : Tr
  T : Int → List ByteArray
  op : List Dl
  kf : Mz.Mf
  kcur : Int
/-- Where its parts lie. -/
structure At where
  t : Nat
  u : Nat
  mb : Nat
  kb : Nat
  C : Nat
  ov : Value
def TxtOk (l : List ByteArray) : Prop := 1 ≤ l.length ∧ Ln l
structure Fine (N : Int) (s : BS) : Prop where
  ls : TxtOk s.ls
  cur : 1 ≤ s.cur ∧ s.cur ≤ (s.ls.length : Int)
  tx : ∀ x, look s.m.L x ≠ none → TxtOk (s.T x)
  op : Few64 s.op
  ap : apps (s.T s.m.now) s.op = some s.ls
  md : ∀ x c, s.mf x = some c → 97 ≤ x ∧ x ≤ 122
  kd : ∀ x c, s.kf x = some c → 97 ≤ x ∧ x ≤ 122
  mb : Mz.Bd N s.mf
  kcur : -9223372036854775808 ≤ s.kcur ∧ s.kcur < 9223372036854775808
abbrev Fre (o : Tz.Own) (k : Nat) : Prop := o k = .free
structure Bf (B b : Nat) (o : Tz.Own) (M : Nat) (a : At) (s : BS) (w : World) : Prop where
  lb : B ≤ b
  box : Lc 86 b [.pointer (some ⟨a.t, 0, none⟩), .map (some a.mb), .int .i64 s.cur, .pointer (some ⟨a.u, 0, none⟩), a.ov, .map (some a.kb), .int .i64 s.kcur] w
  tr : Tz.Tr o w a.t s.ls M
  ty : OT o w
  ol : ∀ k, k < B → o k = .free
  mp : Mz.Mp a.mb (Mz.vals s.mf) w
  ml : B ≤ a.mb
  kp : Mz.Mp a.kb (Mz.vals s.kf) w
  kl : B ≤ a.kb
  ne : a.mb ≠ a.kb
  st : StT (Fre o) B a.C a.u s.m s.T w
  op : Dx (RQ (Fre o)) a.C a.ov s.op w
  oc : B ≤ a.C
section
variable {B b M : Nat} {o o' o'' : Tz.Own} {a : At} {s : BS} {w w1 w2 : World} {S : Nat → Prop} {Q Q' : Nat → Prop} {v : Value} {ds : List Dl} {D : Nat} {N : Int}
theorem Fr.mz (f : Fr S w w1) : Mz.Fr S w w1 := ⟨f.os, f.tape, f.output, f.size, f.block⟩
theorem Fr.zm (f : Mz.Fr S w w1) : Fr S w w1 := ⟨f.os, f.tape, f.output, f.size, f.block⟩
theorem Dx.frO (h : Dx (RQ Q) D v ds w) (k : Fr S w w1) (c4 : ∀ j cur fr, w.heap[j]? = some (.cells cur 89 fr) → ¬ S j) (c5 : ∀ j cur fr, w.heap[j]? = some (.cells cur 9 fr) → Q j → ¬ S j) : Dx (RQ Q) D v ds w1 := by
  obtain ⟨cs, r1, r2⟩ := h
  refine ⟨cs, row_fr r1 k fun j hj => ?_, r2.imp fun u ls r => ⟨row_fr r.1 k fun j hj => ?_, r.2⟩⟩
  · rcases r1.2 with ⟨z, _⟩ | ⟨g, cap, cur, z, hb, hg, _⟩
    · rw [z] at hj; cases hj
    · rw [z] at hj; simp only [Value.ownBlock, Option.some.injEq] at hj; subst hj; exact c4 _ _ _ hg
  · have := r.2 j hj
    rcases r.1.2 with ⟨z, _⟩ | ⟨g, cap, cur, z, hb, hg, _⟩
    · rw [z] at hj; cases hj
    · rw [z] at hj; simp only [Value.ownBlock, Option.some.injEq] at hj; subst hj; exact c5 _ _ _ hg this
theorem Dx.monoQ (h : Dx (RQ Q) D v ds w) (hq : ∀ j, j < w.heap.size → Q j → Q' j) : Dx (RQ Q') D v ds w := by
  obtain ⟨cs, r1, r2⟩ := h
  exact ⟨cs, r1, r2.imp fun u ls r => ⟨r.1, fun j hj => hq j (r.1.lt j hj).2 (r.2 j hj)⟩⟩
/-- What a call leaves of everything else. -/
structure FK (B : Nat) (o o' : Tz.Own) (w w' : World) : Prop where
  fr : Fr (fun k => B ≤ k ∧ (o k ≠ .free ∨ ∃ ob, w.heap[k]? = some ob ∧ TB ob)) w w'
  own : ∀ k, k < w.heap.size → o k = .free → o' k = .free
theorem FK.kp (k : Kp w w1) (o : Tz.Own) : FK B o o w w1 := ⟨Fr.of_below k, fun _ _ h => h⟩
theorem FK.trans (h : FK B o o' w w1) (h' : FK B o' o'' w1 w2) : FK B o o'' w w2 := by
  refine ⟨h.fr.trans' h'.fr fun k hk ⟨q1, q2⟩ => ⟨q1, ?_⟩, fun k hk e => h'.own k (Nat.lt_of_lt_of_le hk h.fr.size) (h.own k hk e)⟩
  by_cases e : o k = .free
  · rcases q2 with q | ⟨ob, q3, q4⟩
    · exact absurd (h.own k hk e) q
    · right
      by_cases z : ∃ ob, w.heap[k]? = some ob ∧ TB ob
      · exact z
      · have := h.fr.block k hk (fun ⟨_, y⟩ => by rcases y with y | y; exact y e; exact z y)
        rw [this] at q3
        exact ⟨ob, q3, q4⟩
  · exact .inl e
theorem FK.below (h : FK B o o' w w1) (hB : B ≤ w.heap.size) : Below B w w1 := h.fr.below hB fun k hk ⟨q, _⟩ => by omega
theorem FK.size (h : FK B o o' w w1) : w.heap.size ≤ w1.heap.size := h.fr.size
/-- Lines of one's own, in a block that is not the tree's, stay. -/
theorem FK.rq (h : FK B o o' w w1) {ls : List ByteArray} (r : RQ (Fre o) v ls w) : RQ (Fre o') v ls w1 := by
  refine ⟨row_fr r.1 h.fr fun j hj ⟨_, q⟩ => ?_, fun j hj => h.own j (r.1.lt j hj).2 (r.2 j hj)⟩
  rcases q with q | ⟨ob, q1, q2⟩
  · exact q (r.2 j hj)
  · rcases r.1.2 with ⟨z, _⟩ | ⟨g, cap, cur, z, hb, hg, _⟩
    · rw [z] at hj; cases hj
    · rw [z] at hj; simp only [Value.ownBlock, Option.some.injEq] at hj; subst hj
      rw [hg] at q1; cases q1
      rcases q2 with q | q | q | q <;> exact absurd q (by decide)
theorem Bf.fre (h : Bf B b o M a s w) {k : Nat} {ob : Obj} (hk : w.heap[k]? = some ob) (hT : TB ob) : o k = .free := h.ty.tb hk hT
theorem Bf.new (h : Bf B b o M a s w) {k : Nat} (hk : w.heap.size ≤ k) : o k = .free := tz_new h.tr hk
theorem Bf.fb (h : Bf B b o M a s w) : o b = .free := h.fre h.box (.inr (.inr (.inl rfl)))
theorem Bf.kp_ (h : Bf B b o M a s w) (k : Kp w w1) : Bf B b o M a s w1 :=
  have hs : ∀ j, o j ≠ .free → w1.heap[j]? = w.heap[j]? := fun j hj => k.block j (tz_lt h.tr hj)
  ⟨h.lb, h.box.kp k, tz_same h.tr k.size hs, h.ty.same hs, h.ol, h.mp.kp k, h.ml, h.kp.kp k, h.kl, h.ne, h.st.kp k, h.op.kp (okRQ _ _) k, h.oc⟩
/-- The box alone is turned; what it says anew lies there. -/
theorem Bf.onbx (h : Bf B b o M a s w) (f : Fr (On b) w w1) {c' k' : Int} {kb' : Nat} {kf' : Mz.Mf} {ov' : Value} {op' : List Dl} (hb : Lc 86 b [.pointer (some ⟨a.t, 0, none⟩), .map (some a.mb), .int .i64 c', .pointer (some ⟨a.u, 0, none⟩), ov', .map (some kb'), .int .i64 k'] w1)
    (hk : Mz.Mp kb' (Mz.vals kf') w) (hkl : B ≤ kb') (hne : a.mb ≠ kb') (ho : Dx (RQ (Fre o)) a.C ov' op' w) : Bf B b o M { a with kb := kb', ov := ov' } { s with cur := c', kcur := k', kf := kf', op := op' } w1 ∧ FK B o o w w1 := by
  have hbo : ∀ j, On b j → j = b := fun j e => by unfold On at e; exact e
  have hs : ∀ j, o j ≠ .free → w1.heap[j]? = w.heap[j]? := fun j hj => f.block j (tz_lt h.tr hj) fun e => hj (by rw [hbo j e]; exact h.fb)
  have ty : ∀ j ob, w.heap[j]? = some ob → (∀ cur fr, ob ≠ .cells cur 86 fr) → ¬ On b j := fun j ob hj hn e => by
    rw [hbo j e] at hj
    have := h.box; unfold Lc at this; rw [this] at hj; cases hj; exact hn _ _ rfl
  refine ⟨⟨h.lb, hb, tz_same h.tr f.size hs, h.ty.same hs, h.ol, h.mp.fr f.mz fun e => ?_, h.ml, hk.fr f.mz fun e => ?_, hkl, hne, h.st.frQ f (fun j ob hj hT => ty j ob hj fun cur fr e => ?_) (fun j cur fr hj _ => ty j _ hj fun c f e => by cases e) (fun j cur fr hj _ => ty j _ hj fun c f e => by cases e), ho.frO f (fun j cur fr hj => ty j _ hj fun c f e => by cases e) (fun j cur fr hj _ => ty j _ hj fun c f e => by cases e), h.oc⟩, ⟨f.mono fun j hj e => ?_, fun _ _ e => e⟩⟩
  · have := hbo _ e
    obtain ⟨es, c, q, _⟩ := h.mp
    have hx := h.box; unfold Lc at hx; rw [this, hx] at q; cases q
  · have := hbo _ e
    obtain ⟨es, c, q, _⟩ := hk
    have hx := h.box; unfold Lc at hx; rw [this, hx] at q; cases q
  · subst e; rcases hT with q | q <;> exact absurd q (by decide)
  · rw [hbo j e]
    exact ⟨h.lb, .inr ⟨_, h.box, .inr (.inr (.inl rfl))⟩⟩
/-- The cursors alone. -/
theorem Bf.onb (h : Bf B b o M a s w) (f : Fr (On b) w w1) {c' k' : Int} (hb : Lc 86 b [.pointer (some ⟨a.t, 0, none⟩), .map (some a.mb), .int .i64 c', .pointer (some ⟨a.u, 0, none⟩), a.ov, .map (some a.kb), .int .i64 k'] w1) : Bf B b o M a { s with cur := c', kcur := k' } w1 ∧ FK B o o w w1 :=
  h.onbx f hb h.kp h.kl h.ne h.op
end
end Go.Proofs.YtaefeakmlgjonaaGreat
/- Len, Lines, Line, Cursor, Put, Marks, States of a text. -/
namespace Go.Proofs.YtaefeakmlgjonaaGreat
open Go.ChangeShapes Go.WideShapes Go.ChangeAt Go.RowKit Go.Maps Go.MapKept
set_option linter.unusedVariables false
set_option linter.unusedSimpArgs false
set_option maxRecDepth 100000
section
variable {B b M : Nat} {o : Tz.Own} {a : At} {s : BS} {w : World} {N : Int}
set_option maxHeartbeats 4000000 in
theorem blen_any (h : Bf B b o M a s w) : Calls Tryz.prog 20 #[.pointer (some ⟨b, 0, none⟩)] w fun e w' => e = .returned (.int .i64 s.ls.length) ∧ ∃ q, w' = w.drewN q := by
  have c0 := h.box.at (j := 0) rfl
  have HL : Hid _ := h.tr.len
  obtain ⟨n, hn⟩ : ∃ n, s.ls.length = n := ⟨_, rfl⟩
  rw [hn] at HL ⊢
  clear h hn
  go_enter Tryz.func20, Tryz.ntmps20
  go_wp2_with fail
  refine Calls.mono HL.out ?_
  rintro e w' ⟨rfl, q, rfl⟩
  clear HL
  go_wp2_with fail
  go_ret
  exact ⟨rfl, q, rfl⟩
set_option maxHeartbeats 4000000 in
theorem blines_any (h : Bf B b o M a s w) (f : Fine N s) : Calls Tryz.prog 14 #[.pointer (some ⟨b, 0, none⟩)] w fun e w' => ∃ v, e = .returned v ∧ Row w.heap.size v s.ls w' ∧ Kp w w' := by
  have c0 := h.box.at (j := 0) rfl
  have hl := f.ls.2.1
  have HL : Hid _ := Tz.lines_any h.tr (by omega)
  clear h f hl
  go_enter Tryz.func14, Tryz.ntmps14
  go_wp2_with fail
  refine Calls.mono HL.out ?_
  rintro e w' ⟨v, rfl, k, gb, rfl, r⟩
  have HX : Hid (Row w.heap.size (.slice (some ⟨gb, 0, none⟩) s.ls.length s.ls.length) s.ls w' ∧ Kp w w') := ⟨r, k⟩
  obtain ⟨n, hn⟩ : ∃ n, s.ls.length = n := ⟨_, rfl⟩
  rw [hn] at HX ⊢
  clear HL k r hn
  go_wp2_with fail
  go_ret
  exact ⟨_, rfl, HX.out⟩
set_option maxHeartbeats 4000000 in
theorem bcursor_any (h : Bf B b o M a s w) : Calls Tryz.prog 25 #[.pointer (some ⟨b, 0, none⟩)] w fun e w' => e = .returned (.int .i64 s.cur) ∧ w' = w := by
  have c0 := h.box.at (j := 2) rfl
  obtain ⟨n, hn⟩ : ∃ n, s.cur = n := ⟨_, rfl⟩
  rw [hn] at c0 ⊢
  clear h hn
  go_enter Tryz.func25, Tryz.ntmps25
  go_wp2_with fail
  go_ret
  exact ⟨rfl, rfl⟩
set_option maxHeartbeats 4000000 in
theorem bmarks_any (w : World) (b : Nat) : Calls Tryz.prog 17 #[.pointer (some ⟨b, 0, none⟩)] w fun e w' => e = .returned (.pointer (some ⟨b, 1, none⟩)) ∧ w' = w := by
  go_enter Tryz.func17, Tryz.ntmps17
  go_wp2_with fail
  go_ret
  exact ⟨rfl, rfl⟩
set_option maxHeartbeats 4000000 in
theorem bstates_any (h : Bf B b o M a s w) : Calls Tryz.prog 35 #[.pointer (some ⟨b, 0, none⟩)] w fun e w' => e = .returned (.pointer (some ⟨a.u, 0, none⟩)) ∧ w' = w := by
  have c0 := h.box.at (j := 3) rfl
  obtain ⟨n, hn⟩ : ∃ n, a.u = n := ⟨_, rfl⟩
  rw [hn] at c0 ⊢
  clear h hn
  go_enter Tryz.func35, Tryz.ntmps35
  go_wp2_with fail
  go_ret
  exact ⟨rfl, rfl⟩
/-- Where Put puts the cursor. -/
def putC (n : Int) (l : Nat) : Int := min (max n 1) (l : Int)
set_option maxHeartbeats 4000000 in
theorem tput_any (h : Bf B b o M a s w) (f : Fine N s) {n : Int} (hn : -9223372036854775808 ≤ n ∧ n ≤ 9223372036854775807) : Calls Tryz.prog 73 #[.pointer (some ⟨b, 0, none⟩), .int .i64 n] w fun e w' => e = .returned (.tuple #[]) ∧ Bf B b o M a { s with cur := putC n s.ls.length } w' ∧ FK B o o w w' := by
  have c0 := h.box.at (j := 0) rfl
  have HL : Hid _ := h.tr.len
  have hl := f.ls.2.1
  obtain ⟨L, hL⟩ : ∃ n, s.ls.length = n := ⟨_, rfl⟩
  have HB : Hid (∀ q, Bf B b o M a s (w.drewN q)) := fun q => h.kp_ (kp_drewN _ _)
  have c2 := fun q => (HB.out q).box.at (j := 2) rfl
  have f2 := fun q => (HB.out q).box.fz 2
  rw [hL] at HL hl ⊢
  obtain ⟨r, hr⟩ : ∃ r, putC n L = r := ⟨_, rfl⟩
  have e1 : min (max n 1) (L : Int) = r := hr
  have HR : Hid (∀ q, Bf B b o M a { s with cur := r } ((w.drewN q).setCell ⟨b, 2, none⟩ (.int .i64 r)) ∧ FK B o o w ((w.drewN q).setCell ⟨b, 2, none⟩ (.int .i64 r))) := fun q => by
    obtain ⟨q1, q2⟩ := (HB.out q).onb (fr_set b 2 (.int .i64 r) _) (c' := r) (k' := s.kcur) ((HB.out q).box.set 2 _)
    exact ⟨q1, (FK.kp (kp_drewN _ _) o).trans q2⟩
  rw [hr]
  clear h f hL HB hr
  go_enter Tryz.func73, Tryz.ntmps73
  go_wp2_with fail
  refine Calls.mono HL.out ?_
  rintro e w' ⟨rfl, q, rfl⟩
  have c2' := c2 q
  have f2' := f2 q
  have HX : Hid _ := HR.out q
  clear HL HR c2 f2
  go_wp2_with fail
  go_end0
  exact ⟨rfl, HX.out⟩
set_option maxHeartbeats 4000000 in
theorem bput_any (h : Bf B b o M a s w) (f : Fine N s) {n : Int} (hn : -9223372036854775808 ≤ n ∧ n ≤ 9223372036854775807) : Calls Tryz.prog 31 #[.pointer (some ⟨b, 0, none⟩), .int .i64 n] w fun e w' => e = .returned (.tuple #[]) ∧ Bf B b o M a { s with cur := putC n s.ls.length } w' ∧ FK B o o w w' := by
  have HL : Hid _ := tput_any h f hn
  have c0 := h.box.at (j := 0) rfl
  clear h f
  go_enter Tryz.func31, Tryz.ntmps31
  go_wp2_with fail
  refine Calls.mono HL.out ?_
  rintro e w' ⟨rfl, q⟩
  have HX : Hid _ := q
  clear HL q
  go_wp2_with fail
  go_end0
  exact ⟨rfl, HX.out⟩
end
end Go.Proofs.YtaefeakmlgjonaaGreat
/- copied, keep. -/
namespace Go.Proofs.YtaefeakmlgjonaaGreat
open Go.ChangeShapes Go.WideShapes Go.ChangeAt Go.RowKit Go.Maps Go.MapKept
set_option linter.unusedVariables false
set_option linter.unusedSimpArgs false
set_option maxRecDepth 100000
section
variable {B b M mb : Nat} {o : Tz.Own} {a : At} {s : BS} {w : World} {N c : Int} {f : Mz.Mf}
theorem kp_set {w w1 : World} (k : Kp w w1) {p : Nat} (hp : w.heap.size ≤ p) (j : Nat) (v : Value) : Kp w (w1.setCell ⟨p, j, none⟩ v) := k.trans ((fr_set p j v w1).below k.size fun q hq e => by unfold On at e; omega)
theorem mp_set {f : Int → Option Value} {w : World} {p j : Nat} {T : TypeId} {l : List Value} {v : Value} (h : Mz.Mp b f w) (hl : Lc T p l w) : Mz.Mp b f (w.setCell ⟨p, j, none⟩ v) := h.fr (fr_set p j v w).mz fun e => h.ne (show Mz.Lc T p l w from hl) (by unfold On at e; exact e.symm)
set_option maxHeartbeats 16000000 in
theorem copied_any (h : Mz.Mp mb (Mz.vals f) w) (hd : ∀ x c, f x = some c → 97 ≤ x ∧ x ≤ 122) (c : Int) :
    Calls Tryz.prog 76 #[.agg #[.map (some mb), .int .i64 c]] w fun e w' => ∃ b', e = .returned (.agg #[.map (some b'), .int .i64 c]) ∧ Mz.Mp b' (Mz.vals f) w' ∧ Kp w w' ∧ w.heap.size ≤ b' := by
  obtain ⟨p, hp⟩ : ∃ p, w.heap.size = p := ⟨_, rfl⟩
  obtain ⟨W1, hW1⟩ : ∃ z, w.alloc (.cells #[.map (some mb), .int .i64 c] 80) = z := ⟨_, rfl⟩
  obtain ⟨W2, hW2⟩ : ∃ z, W1.alloc (.cells #[.map none, .int .i64 0] 80) = z := ⟨_, rfl⟩
  have k1 : Kp w W1 := by rw [← hW1]; exact kp_alloc _ _
  have k2 : Kp W1 W2 := by rw [← hW2]; exact kp_alloc _ _
  have z1 : W1.heap.size = p + 1 := by rw [← hW1, alloc_size, hp]
  have b1 : Lc 80 p [.map (some mb), .int .i64 c] W2 := (by rw [← hW1, ← hp]; exact Lc.new w [.map (some mb), .int .i64 c] 80 : Lc 80 p [.map (some mb), .int .i64 c] W1).kp k2
  have b2 : Lc 80 (p + 1) [.map none, .int .i64 0] W2 := by rw [← hW2, ← z1]; exact Lc.new W1 [.map none, .int .i64 0] 80
  have HC : Hid (∀ z, Kp W2 z → Calls Tryz.prog 119 #[.pointer (some ⟨p, 0, none⟩)] z fun e w' => ∃ t' b', e = .returned (.pointer (some ⟨t', 0, none⟩)) ∧ w'.cell? ⟨t', 0, none⟩ = some (.map (some b')) ∧ Mz.Mp b' (Mz.vals f) w' ∧ Kp W2 w' ∧ w.heap.size ≤ b') := fun z kz => by
    refine (Mz.copy_any (t := p) (o := 0) (b := mb) (f := f) ⟨⟨_, _, b1.kp kz, rfl⟩, ((h.kp k1).kp k2).kp kz, hd⟩).mono ?_
    rintro e w' ⟨t', b', rfl, hm, kk, q1, q2⟩
    exact ⟨t', b', rfl, hm.box.cell_, hm.map, kp_trans kz kk, Nat.le_trans (Nat.le_trans k1.size k2.size) (Nat.le_trans kz.size q2)⟩
  have c0 := b1.at (j := 1) rfl
  have HB2 : Hid (Lc 80 (p + 1) [.map none, .int .i64 0] W2 ∧ Kp w W2 ∧ W2.heap.size = p + 2) := ⟨b2, kp_trans k1 k2, by rw [← hW2, alloc_size, z1]⟩
  clear h hd k1 k2 b1 b2
  go_enter Tryz.func76, Tryz.ntmps76
  go_wp2_with fail
  go_region_with (go_at_call 119; refine Calls.mono (HC.out _ (by first | exact Below.refl _ _ | exact kp_drew _ | exact kp_drewN _ _)) ?_; rintro e w5 ⟨t', b', rfl, c5, m5, k5, q5⟩; have c0' := kp_cell k5 c0; have b5 := HB2.out.1.kp k5; have d0 := b5.at (j := 0) rfl; have d1 := b5.at (j := 1) rfl; have e0 := b5.fz 0; have e1 := b5.fz 1; have HX : Hid (Mz.Mp b' (Mz.vals f) w5 ∧ Kp W2 w5 ∧ w.heap.size ≤ b' ∧ Lc 80 (p + 1) [.map none, .int .i64 0] w5) := ⟨m5, k5, q5, b5⟩; clear m5 k5 q5 b5)
  all_goals
    clear HC c0
    have HQ : Hid (Lc 80 (p + 1) [.map (some b'), .int .i64 c] ((w5.setCell ⟨p + 1, 0, none⟩ (.map (some b'))).setCell ⟨p + 1, 1, none⟩ (.int .i64 c)) ∧ Mz.Mp b' (Mz.vals f) ((w5.setCell ⟨p + 1, 0, none⟩ (.map (some b'))).setCell ⟨p + 1, 1, none⟩ (.int .i64 c)) ∧ Kp w ((w5.setCell ⟨p + 1, 0, none⟩ (.map (some b'))).setCell ⟨p + 1, 1, none⟩ (.int .i64 c)) ∧ w.heap.size ≤ b') :=
      ⟨(HX.out.2.2.2.set 0 (.map (some b'))).set 1 (.int .i64 c), mp_set (mp_set HX.out.1 HX.out.2.2.2) (HX.out.2.2.2.set 0 _), kp_set (kp_set (kp_trans HB2.out.2.1 HX.out.2.1) (by omega) _ _) (by omega) _ _, HX.out.2.2.1⟩
    clear HX HB2 c5 c0' d0 d1 e0 e1
    go_wp2_with fail
    refine bodyPost_ret (results_box1 rfl rfl HQ.out.1 Tryz.underlying80 rfl (by kernel_rfl)) rfl ?_
    exact ⟨b', rfl, HQ.out.2⟩
set_option maxHeartbeats 16000000 in
theorem keep_any (h : Bf B b o M a s w) (f : Fine N s) : Calls Tryz.prog 44 #[.pointer (some ⟨b, 0, none⟩)] w fun e w' => e = .returned (.tuple #[]) ∧ ∃ kb', Bf B b o M { a with kb := kb' } { s with kf := s.mf, kcur := s.cur } w' ∧ FK B o o w w' := by
  have HC : Hid _ := copied_any h.mp f.md s.cur
  have c1 := h.box.at (j := 1) rfl
  have c2 := h.box.at (j := 2) rfl
  have HB : Hid (Bf B b o M a s w ∧ ∀ kb' : Nat, w.heap.size ≤ kb' → a.mb ≠ kb' ∧ B ≤ kb') := ⟨h, fun kb' hk => ⟨fun e => by have := (Array.getElem?_eq_some_iff.1 (Classical.choose_spec (Classical.choose_spec h.mp)).1).1; omega, by have := h.lb; have := h.box.lt; omega⟩⟩
  obtain ⟨cu, hcu⟩ : ∃ c, s.cur = c := ⟨_, rfl⟩
  obtain ⟨mb, hmb⟩ : ∃ c, a.mb = c := ⟨_, rfl⟩
  rw [hcu] at HC c2
  rw [hmb] at HC c1
  have HCU : Hid (s.cur = cu ∧ a.mb = mb) := ⟨hcu, hmb⟩
  clear h f hcu hmb
  go_enter Tryz.func44, Tryz.ntmps44
  go_wp2_with fail
  refine Calls.mono HC.out ?_
  rintro e w5 ⟨b', rfl, m5, k5, q5⟩
  have h5 := HB.out.1.kp_ k5
  have d5 := h5.box.at (j := 5) rfl
  have d6 := h5.box.at (j := 6) rfl
  have e5 := h5.box.fz 5
  have e6 := h5.box.fz 6
  have HQ : Hid (∃ kb', Bf B b o M { a with kb := kb' } { s with kf := s.mf, kcur := s.cur } ((w5.setCell ⟨b, 5, none⟩ (.map (some b'))).setCell ⟨b, 6, none⟩ (.int .i64 cu)) ∧ FK B o o w ((w5.setCell ⟨b, 5, none⟩ (.map (some b'))).setCell ⟨b, 6, none⟩ (.int .i64 cu))) := by
    obtain ⟨q1, q2⟩ := h5.onbx ((fr_set b 5 (.map (some b')) w5).trans (fr_set b 6 (.int .i64 cu) _)) (c' := s.cur) (k' := s.cur) (kb' := b') (kf' := s.mf) (ov' := a.ov) (op' := s.op) (by rw [HCU.out.1]; have := (h5.box.set 5 (.map (some b'))).set 6 (.int .i64 cu); rw [HCU.out.1] at this; exact this) m5 (HB.out.2 b' q5).2 (HB.out.2 b' q5).1 h5.op
    exact ⟨b', q1, (FK.kp k5 o).trans q2⟩
  clear h5 m5 k5 q5 HC HB HCU
  go_wp2_with fail
  go_end0
  exact ⟨rfl, HQ.out⟩
end
end Go.Proofs.YtaefeakmlgjonaaGreat
/- lay, follow: a change of the lines; what it makes of the marks. -/
namespace Go.Proofs.YtaefeakmlgjonaaGreat
open Go.ChangeShapes Go.WideShapes Go.ChangeAt Go.RowKit Go.Maps Go.MapKept
set_option linter.unusedVariables false
set_option linter.unusedSimpArgs false
set_option maxRecDepth 100000
section
variable {B b M M' : Nat} {o o' : Tz.Own} {a : At} {s : BS} {w w1 : World} {N : Int} {ls : List ByteArray} {v : Value}
/-- The tree alone is turned. -/
theorem Bf.tree (h : Bf B b o M a s w) (ht : Tz.Tr o' w1 a.t ls M') (k : Tz.Keeps o o' w w1) (hot : OT o' w1) : Bf B b o' M' a { s with ls := ls } w1 ∧ FK B o o' w w1 := by
  have f : Fr (fun j => o j ≠ .free) w w1 := ⟨k.os, k.tape, k.output, k.size, fun j hj hn => k.block j hj (by rcases Classical.em (o j = .free) with q | q; exact q; exact absurd q hn)⟩
  have hbs : B ≤ w.heap.size := by have := h.lb; have := h.box.lt; omega
  have tb : ∀ j ob, w.heap[j]? = some ob → TB ob → ¬ (o j ≠ .free) := fun j ob hj hT e => e (h.fre hj hT)
  obtain ⟨ob1, x1, y1⟩ := mz_tb h.mp
  obtain ⟨ob2, x2, y2⟩ := mz_tb h.kp
  have st1 : StT (fun j => o j = .free ∧ j < w.heap.size) B a.C a.u s.m s.T w := h.st.monoQ fun j hj q => ⟨q, hj⟩
  have op1 : Dx (RQ fun j => o j = .free ∧ j < w.heap.size) a.C a.ov s.op w := h.op.monoQ fun j hj q => ⟨q, hj⟩
  refine ⟨⟨h.lb, h.box.fr f (tb _ _ h.box (.inr (.inr (.inl rfl)))), ht, hot, fun j hj => k.own j (by omega) (h.ol j hj), h.mp.fr f.mz (tb _ _ x1 y1), h.ml, h.kp.fr f.mz (tb _ _ x2 y2), h.kl, h.ne, ?_, ?_, h.oc⟩, ⟨f.mono fun j hj e => ⟨?_, .inl e⟩, k.own⟩⟩
  · exact (st1.frQ f (fun j ob hj hT => tb j ob hj (tb_of_tp hT)) (fun j cur fr hj _ => tb j _ hj (.inr (.inr (.inr rfl)))) (fun j cur fr hj q e => e q.1)).monoQ fun j hj q => k.own j q.2 q.1
  · exact (op1.frO f (fun j cur fr hj => tb j _ hj (.inr (.inr (.inr rfl)))) (fun j cur fr hj q e => e q.1)).monoQ fun j hj q => k.own j q.2 q.1
  · rcases Nat.lt_or_ge j B with q | q
    · exact absurd (h.ol j q) e
    · exact q
/-- Lines of one's own are lines that can be handed to the tree. -/
theorem RQ.lies (r : RQ (Fre o) v ls w) : Tz.Lies o w v ls := by
  obtain ⟨a, c, e, h1, h2⟩ := owns_form r.1
  refine ⟨a, c, e, h1, h2, ?_⟩
  rcases r.1.2 with ⟨z, h0⟩ | ⟨g, cap, cur, z, hb, hg, p1, p2, p3, p4⟩
  · exact .inl (List.eq_nil_of_length_eq_zero h0)
  · rw [z] at e
    simp only [Value.slice.injEq] at e
    refine .inr ⟨g, 0, e.1.symm, (Array.getElem?_eq_some_iff.1 hg).1, r.2 g (by rw [z]; rfl), fun j y hj => ?_⟩
    have hj' : (strs ls)[j]? = some (.string y) := by simp [strs, hj]
    rw [cell_at hg, ← Array.getElem?_toList, Nat.zero_add]
    rw [← p4, List.getElem?_take] at hj'
    split at hj'
    · exact hj'
    · cases hj'
theorem Sl.lies (h : Bf B b o M a s w) (r : Sl (fun k => k < B) v ls w) : Tz.Lies o w v ls := by
  obtain ⟨a', c, rfl, h1, h2, h3, h4⟩ := r
  refine ⟨a', c, rfl, h1, h2, ?_⟩
  cases hl : ls with
  | nil => exact .inl rfl
  | cons x r =>
    obtain ⟨g, off, e, p, q⟩ := h4 0 x (by rw [hl]; rfl)
    refine .inr ⟨g, off, e, World.block_lt_of_cell? _ _ q, h.ol g p, fun j y hj => ?_⟩
    obtain ⟨g', off', e', _, q'⟩ := h4 j y (by rw [hl]; exact hj)
    rw [e] at e'; cases e'; exact q'
/-- What a change makes of lines. -/
def spl (ls : List ByteArray) (i n : Nat) (ms : List ByteArray) : List ByteArray := ls.take i ++ ms ++ ls.drop (i + n)
theorem sizes_le {l : List ByteArray} (h : ∀ s ∈ l, s.size ≤ 1000) : Tz.sizes l ≤ 1000 * l.length := by
  induction l with
  | nil => simp [Tz.sizes]
  | cons x r ih =>
    have h1 := h x (by simp)
    have h2 := ih fun s hs => h s (by simp [hs])
    simp only [Tz.sizes, List.map_cons, List.sum_cons, List.length_cons] at h2 ⊢
    omega
end
end Go.Proofs.YtaefeakmlgjonaaGreat
/- Steps of a region that draws its order, walked by hand. -/
namespace Go.Proofs.YtaefeakmlgjonaaGreat
open Go.ChangeShapes Go.WideShapes Go.ChangeAt Go.RowKit
set_option linter.unusedVariables false
set_option linter.unusedSimpArgs false
set_option maxRecDepth 100000
/-- A change lies boxed at p; at b lies a text whose tree is t. -/
def Sd (p b : Nat) (i : Int) (vo vn t : Value) (w : World) : Prop := w.cell? ⟨p, 0, none⟩ = some (.int .i64 i) ∧ w.cell? ⟨p, 1, none⟩ = some vo ∧ w.cell? ⟨p, 2, none⟩ = some vn ∧ w.cell? ⟨b, 0, none⟩ = some t
theorem Sd.eq {p b : Nat} {i : Int} {vo vn t : Value} {w w1 : World} (h : Sd p b i vo vn t w) (h1 : w1.heap[p]? = w.heap[p]?) (h2 : w1.cell? ⟨b, 0, none⟩ = some t) : Sd p b i vo vn t w1 :=
  ⟨by rw [World.cell?_of_block h1]; exact h.1, by rw [World.cell?_of_block h1]; exact h.2.1, by rw [World.cell?_of_block h1]; exact h.2.2.1, h2⟩
end Go.Proofs.YtaefeakmlgjonaaGreat
/- Commit. -/
namespace Go.Proofs.YtaefeakmlgjonaaGreat
open Go.ChangeShapes Go.WideShapes Go.ChangeAt Go.RowKit Go.Maps Go.MapKept
set_option linter.unusedVariables false
set_option linter.unusedSimpArgs false
set_option maxRecDepth 100000
/-- At b lies a text whose states are at u, with ov open. -/
def Sb (b : Nat) (u ov : Value) (w : World) : Prop := w.cell? ⟨b, 3, none⟩ = some u ∧ w.cell? ⟨b, 4, none⟩ = some ov
section
variable {B b M C' : Nat} {o : Tz.Own} {a : At} {s : BS} {w w1 : World} {N : Int} {m' : Tr} {T' : Int → List ByteArray}
theorem tp_buf (cur : Array Value) (fr : Nat × Nat) : ¬ TP (.cells cur 86 fr) := fun q => by rcases q with q | q <;> exact absurd q (by decide)
theorem Bf.ffs (h : Bf B b o M a s w) (k : Ff TP B w w1) : ∀ j, o j ≠ .free → w1.heap[j]? = w.heap[j]? := fun j hj => by
  refine Fr.block k j (tz_lt h.tr hj) fun ⟨_, ob, h1, h2⟩ => hj (h.fre h1 (tb_of_tp h2))
theorem fk_ff {o : Tz.Own} (k : Ff TP B w w1) : FK B o o w w1 := ⟨Fr.mono k fun j _ ⟨h1, ob, h2, h3⟩ => ⟨h1, .inr ⟨ob, h2, tb_of_tp h3⟩⟩, fun _ _ e => e⟩
/-- The states are turned; nothing is open. -/
theorem Bf.went (h : Bf B b o M a s w) (k : Ff TP B w w1) (st : StT (Fre o) B a.C a.u m' T' w1) : Bf B b o M a { s with m := m', T := T' } w1 ∧ FK B o o w w1 := by
  have hs := h.ffs k
  refine ⟨⟨h.lb, h.box.ff k tp_buf, tz_same h.tr k.size hs, h.ty.same hs, h.ol, h.mp.fr (Fr.mz k) fun ⟨_, ob, q1, q2⟩ => mz_tp h.mp q1 q2, h.ml, h.kp.fr (Fr.mz k) fun ⟨_, ob, q1, q2⟩ => mz_tp h.kp q1 q2, h.kl, h.ne, st, ?_, h.oc⟩, fk_ff k⟩
  exact h.op.ffQ k tp_delta tp_str
/-- A state is made, and nothing is open any more. -/
theorem Bf.made (h : Bf B b o M a s w) (k : Ff TP B w w1) (st : StT (Fre o) B C' a.u m' T' w1) (hC : B ≤ C') : Bf B b o M { a with C := C', ov := .slice none 0 0 } { s with m := m', T := T', op := [] } (w1.setCell ⟨b, 4, none⟩ (.slice none 0 0)) ∧ FK B o o w (w1.setCell ⟨b, 4, none⟩ (.slice none 0 0)) := by
  have hs := h.ffs k
  have h1 : Bf B b o M { a with C := C', ov := .slice none 0 0 } { s with m := m', T := T', op := [] } w1 → True := fun _ => trivial
  have bx : Lc 86 b _ w1 := h.box.ff k tp_buf
  have f := fr_set b 4 (.slice none 0 0) w1
  have hbo : ∀ j, On b j → j = b := fun j e => by unfold On at e; exact e
  have ty : ∀ j ob, w1.heap[j]? = some ob → (∀ cur fr, ob ≠ .cells cur 86 fr) → ¬ On b j := fun j ob hj hn e => by
    rw [hbo j e] at hj
    unfold Lc at bx; rw [bx] at hj; cases hj; exact hn _ _ rfl
  have hs2 : ∀ j, o j ≠ .free → (w1.setCell ⟨b, 4, none⟩ (.slice none 0 0)).heap[j]? = w.heap[j]? := fun j hj => by
    rw [f.block j (Nat.lt_of_lt_of_le (tz_lt h.tr hj) k.size) fun e => hj (by rw [hbo j e]; exact h.fb)]
    exact hs j hj
  have mp1 : Mz.Mp a.mb (Mz.vals s.mf) w1 := h.mp.fr (Fr.mz k) fun ⟨_, ob, q1, q2⟩ => mz_tp h.mp q1 q2
  have kp1 : Mz.Mp a.kb (Mz.vals s.kf) w1 := h.kp.fr (Fr.mz k) fun ⟨_, ob, q1, q2⟩ => mz_tp h.kp q1 q2
  refine ⟨⟨h.lb, bx.set 4 (.slice none 0 0), tz_same h.tr (Nat.le_trans k.size f.size) hs2, h.ty.same hs2, h.ol, mp_set mp1 bx, h.ml, mp_set kp1 bx, h.kl, h.ne, ?_, ⟨[], World.ownsRow_nil _ _ _ _, ⟨rfl, fun i d c h1 h2 => by simp at h1⟩⟩, hC⟩, (fk_ff k).trans ⟨f.mono fun j hj e => ?_, fun _ _ e => e⟩⟩
  · refine st.frQ f (fun j ob hj hT => ty j ob hj fun cur fr e => ?_) (fun j cur fr hj _ => ty j _ hj fun c f e => by cases e) (fun j cur fr hj _ => ty j _ hj fun c f e => by cases e)
    subst e; exact tp_buf _ _ hT
  · rw [hbo j e]; exact ⟨h.lb, .inr ⟨_, bx, .inr (.inr (.inl rfl))⟩⟩
/-- A text behind Commit. -/
def cmS (s : BS) : BS := if s.op = [] then { s with kf := s.mf, kcur := s.cur } else { s with kf := s.mf, kcur := s.cur, m := addE s.m s.op, T := putT s.T s.m.next s.ls, op := [] }
theorem StT.added (h : StT (Fre o) B a.C a.u s.m s.T w) (hf : Few64 s.op) (ha : apps (s.T s.m.now) s.op = some s.ls) (hn : s.m.next ≤ 199) {w1 : World} (h5 : Tw (Fre o) B w1.heap.size a.u (addE s.m s.op) w1) (k : Ff TP B w w1) : StT (Fre o) B w1.heap.size a.u (addE s.m s.op) (putT s.T s.m.next s.ls) w1 := by
  obtain ⟨e1, e2, e3⟩ := addE_parts s.m s.op
  have I := h.inw
  have hf2 := few64 hf
  exact ⟨h5, Nat.le_refl _, Nat.le_trans h.hB k.size, addE_inw I hf2 h.mo.1, by rw [e3]; exact h.mo, by rw [e3]; exact (addE_len I hf2 h.mo.1 h.ln).1, by rw [e2]; omega, h.tx.addE I hf2 h.mo.1 ha, h.sm.addE I hf2 h.mo.1 hf⟩
set_option maxHeartbeats 16000000 in
theorem commit_no (h : Bf B b o M a s w) (f : Fine N s) (hz : s.op = []) : Calls Tryz.prog 15 #[.pointer (some ⟨b, 0, none⟩)] w fun e w' => e = .returned (.tuple #[.int .i64 0, .bool false]) ∧ ∃ kb', Bf B b o M { a with kb := kb' } (cmS s) w' ∧ FK B o o w w' := by
  have HK : Hid _ := keep_any h f
  obtain ⟨va, vc, hov, _, _⟩ := Dx.form h.op
  rw [hz] at hov
  have HO : Hid (a.ov = .slice va 0 vc ∧ s.op = []) := ⟨hov, hz⟩
  clear h f hz hov
  go_enter Tryz.func15, Tryz.ntmps15
  go_wp2_with fail
  refine Calls.mono HK.out ?_
  rintro e w5 ⟨rfl, kb', h5, f5⟩
  have c4 := h5.box.at (j := 4) rfl
  rw [show ({ a with kb := kb' } : At).ov = .slice va 0 vc from HO.out.1] at c4
  have HX : Hid (∃ kb', Bf B b o M { a with kb := kb' } (cmS s) w5 ∧ FK B o o w w5) := ⟨kb', by unfold cmS; rw [if_pos HO.out.2]; exact h5, f5⟩
  clear HK h5 f5
  go_wp2_with fail
  go_ret2
  exact ⟨rfl, HX.out⟩
set_option maxHeartbeats 16000000 in
theorem commit_yes (h : Bf B b o M a s w) (f : Fine N s) (hz : s.op ≠ []) (hnx : s.m.next ≤ 199) : Calls Tryz.prog 15 #[.pointer (some ⟨b, 0, none⟩)] w fun e w' => e = .returned (.tuple #[.int .i64 s.m.next, .bool true]) ∧ ∃ a', a'.u = a.u ∧ Bf B b o M a' (cmS s) w' ∧ FK B o o w w' := by
  have HK : Hid _ := keep_any h f
  obtain ⟨va, vc, hov, _, _⟩ := Dx.form h.op
  obtain ⟨n, hn⟩ : ∃ n, s.op.length = n := ⟨_, rfl⟩
  rw [hn] at hov
  have hn0 : 0 < n := by rw [← hn]; exact List.length_pos_iff.2 hz
  have HO : Hid (a.ov = .slice va n vc ∧ s.op ≠ [] ∧ Few64 s.op ∧ apps (s.T s.m.now) s.op = some s.ls ∧ s.m.next ≤ 199) := ⟨hov, hz, f.op, f.ap, hnx⟩
  have d1 : ((n : Int) == 0) = false := beq_eq_false_iff_ne.2 (by omega)
  obtain ⟨u, hu⟩ : ∃ u : Value, .pointer (some ⟨a.u, 0, none⟩) = u := ⟨_, rfl⟩
  obtain ⟨ov, hov2⟩ : ∃ v : Value, .slice va n vc = v := ⟨_, rfl⟩
  obtain ⟨nx, hnxe⟩ : ∃ x, s.m.next = x := ⟨_, rfl⟩
  have HU : Hid (.pointer (some ⟨a.u, 0, none⟩) = u ∧ (.slice va n vc : Value) = ov ∧ s.m.next = nx) := ⟨hu, hov2, hnxe⟩
  rw [hnxe]
  clear h f hz hov hn hnx hu hnxe
  go_enter Tryz.func15, Tryz.ntmps15
  go_wp2_with fail
  refine Calls.mono HK.out ?_
  rintro e w5 ⟨rfl, kb', h5, f5⟩
  have c4 := h5.box.at (j := 4) rfl
  rw [show ({ a with kb := kb' } : At).ov = .slice va n vc from HO.out.1] at c4
  have HSD : Hid (Sb b u ov w5) := ⟨by rw [← HU.out.1]; exact h5.box.at (j := 3) rfl, by rw [← HU.out.2.1]; exact c4⟩
  have s0 : ∀ y, Sb b u ov y → y.cell? ⟨b, 3, none⟩ = some u := fun _ h => h.1
  have s1 : ∀ y, Sb b u ov y → y.cell? ⟨b, 4, none⟩ = some ov := fun _ h => h.2
  have HA : Hid (Calls Tryz.prog 49 #[u, ov] w5.drew fun e w' => e = .returned (.int .i64 nx) ∧ ((w'.cell? ⟨b, 4, none⟩ = some ov ∧ w'.frozen? ⟨b, 4, none⟩ = false) ∧ Hid (∃ a', a'.u = a.u ∧ Bf B b o M a' (cmS s) (w'.setCell ⟨b, 4, none⟩ (.slice none 0 0)) ∧ FK B o o w (w'.setCell ⟨b, 4, none⟩ (.slice none 0 0)))) ∧ Sb b u ov w') := by
    have kz := kp_drew w5
    have h6 := h5.kp_ kz
    have st := h6.st
    rw [← HU.out.1, ← HU.out.2.1, ← HU.out.2.2]
    have op6 := h6.op
    rw [show ({ a with kb := kb' } : At).ov = .slice va n vc from HO.out.1] at op6
    refine (add_any st.tw st.inw (by have := st.nx; show s.m.next ≤ 9999; have := HO.out.2.2.2.2; omega) st.ln st.mo st.hB (fun j hj => h6.new hj) (okRQ _ 0) op6.dr (few64 HO.out.2.2.1)).mono ?_
    rintro e w' ⟨rfl, t', k'⟩
    have st' := StT.added (a := { a with kb := kb' }) (s := { s with kf := s.mf, kcur := s.cur }) st HO.out.2.2.1 HO.out.2.2.2.1 HO.out.2.2.2.2 t' k'
    obtain ⟨q1, q2⟩ := h6.made k' st' (Nat.le_trans h6.st.hB k'.size)
    have bx : Lc 86 b _ w' := h6.box.ff k' tp_buf
    have c4' := bx.at (j := 4) rfl
    rw [show ({ a with kb := kb' } : At).ov = .slice va n vc from HO.out.1] at c4'
    refine ⟨rfl, ⟨⟨c4', bx.fz 4⟩, ⟨{ a with kb := kb', C := w'.heap.size, ov := .slice none 0 0 }, rfl, ?_, f5.trans ((FK.kp kz o).trans q2)⟩⟩, bx.at (j := 3) rfl, c4'⟩
    unfold cmS; rw [if_neg HO.out.2.1]; exact q1
  subst hov2
  clear HK h5 f5
  go_wp2_with fail
  refine wp_region_noPanic ?_
  refine wp_region_held_drew (S := Sb b u (.slice va n vc)) (by kernel_rfl) (HSD.out) (fun hHeld => ?_)
  refine takeAt 0 (some 13) ?_ rfl rfl (by kernel_rfl) (by kernel_rfl) (by kernel_rfl) (fun _ _ _ h => h) (Or.inl ⟨by rfl, ?_⟩) hHeld ?_
  rotate_left
  · intro w hSw
    go_simp <;> with_reducible rfl
  try simp only [Act.put, List.setIfInBounds_toArray, List.set_cons_zero, List.set_cons_succ]
  refine takeAt 1 (some 14) ?_ rfl rfl (by kernel_rfl) (by kernel_rfl) (by kernel_rfl) (fun _ _ _ h => h) (Or.inl ⟨by rfl, ?_⟩) hHeld ?_
  rotate_left
  · intro w hSw
    go_simp <;> with_reducible rfl
  try simp only [Act.put, List.setIfInBounds_toArray, List.set_cons_zero, List.set_cons_succ]
  refine takeAt 2 (some 15) ?_ rfl rfl (by kernel_rfl) (by kernel_rfl) (by kernel_rfl) (fun _ _ _ h => h) (Or.inl ⟨by rfl, ?_⟩) hHeld ?_
  rotate_left
  · intro w hSw
    go_simp <;> with_reducible rfl
  try simp only [Act.put, List.setIfInBounds_toArray, List.set_cons_zero, List.set_cons_succ]
  refine takeAt 3 (some 16) ?_ rfl rfl (by kernel_rfl) (by kernel_rfl) (by kernel_rfl) (fun _ _ _ h => h) (Or.inl ⟨by rfl, ?_⟩) hHeld ?_
  rotate_left
  · intro w hSw
    go_simp <;> with_reducible rfl
  try simp only [Act.put, List.setIfInBounds_toArray, List.set_cons_zero, List.set_cons_succ]
  refine takeAt 4 (some 17) ?_ rfl rfl (by kernel_rfl) (by kernel_rfl) (by kernel_rfl) (fun _ _ _ h => h) (Or.inl ⟨by rfl, ?_⟩) hHeld ?_
  rotate_left
  · intro w hSw
    go_simp <;> with_reducible rfl
  try simp only [Act.put, List.setIfInBounds_toArray, List.set_cons_zero, List.set_cons_succ]
  refine takeAt 5 (some 18) ?_ rfl rfl (by kernel_rfl) (by kernel_rfl) (by kernel_rfl) (fun _ _ _ h => h) (Or.inl ⟨by rfl, ?_⟩) hHeld ?_
  rotate_left
  · intro w hSw
    go_simp <;> with_reducible rfl
  try simp only [Act.put, List.setIfInBounds_toArray, List.set_cons_zero, List.set_cons_succ]
  refine takeAt 6 (some 19) ?_ rfl rfl (by kernel_rfl) (by kernel_rfl) (by kernel_rfl) (fun _ _ _ h => h) (Or.inl ⟨by rfl, ?_⟩) hHeld ?_
  rotate_left
  · intro w hSw
    go_simp <;> with_reducible rfl
  try simp only [Act.put, List.setIfInBounds_toArray, List.set_cons_zero, List.set_cons_succ]
  refine takeAt 7 (some 20) ?_ rfl rfl (by kernel_rfl) (by kernel_rfl) (by kernel_rfl) (fun _ _ _ h => h) (Or.inl ⟨by rfl, ?_⟩) hHeld ?_
  rotate_left
  · intro w hSw
    go_simp <;> with_reducible rfl
  try simp only [Act.put, List.setIfInBounds_toArray, List.set_cons_zero, List.set_cons_succ]
  refine callAt 8 21 49 (vals := #[u, .slice va n vc]) (by kernel_rfl) rfl rfl rfl rfl (by simp [Act.eval]) Tryz.func49 (by kernel_rfl) (by kernel_rfl) ?_
  refine Calls.mono (HA.out) ?_
  rintro e w8 ⟨rfl, q, q3⟩
  obtain ⟨⟨y4, g4⟩, HX⟩ := q
  have hs5 : Sb b u (.slice va n vc) w8 := q3
  clear q3
  refine ⟨_, rfl, hs5, fun hHeld => ?_⟩
  try simp only [Act.put, List.setIfInBounds_toArray, List.set_cons_zero, List.set_cons_succ]
  refine takeAt 9 (some 4) ?_ rfl rfl (by kernel_rfl) (by kernel_rfl) (by kernel_rfl) (fun _ _ _ h => h) (Or.inl ⟨by rfl, ?_⟩) hHeld ?_
  rotate_left
  · intro w hSw
    go_simp <;> with_reducible rfl
  try simp only [Act.put, List.setIfInBounds_toArray, List.set_cons_zero, List.set_cons_succ]
  refine wpAnyH_done (by kernel_rfl) ?_ _
  refine NoPanic.normal ?_
  clear HA HSD s0 s1 hs5 HO HU
  go_wp2_with fail
  go_ret2
  exact ⟨rfl, HX.out⟩
end
end Go.Proofs.YtaefeakmlgjonaaGreat
/- Ways to another state: what they tell; marks stay in the text. -/
namespace Go.Proofs.YtaefeakmlgjonaaGreat
open Go.ChangeShapes Go.WideShapes Go.ChangeAt Go.RowKit Go.Maps Go.MapKept
set_option linter.unusedVariables false
set_option linter.unusedSimpArgs false
set_option maxRecDepth 100000
/-- The marks where changes take their lines. -/
def mfT (f : Mz.Mf) (ds : List Dl) : Mz.Mf := ds.foldl (fun f d => Mz.spF f (d.at_ + 1) d.old.length d.nw.length) f
theorem mfT_snoc (f : Mz.Mf) (ds : List Dl) (d : Dl) : mfT f (ds ++ [d]) = Mz.spF (mfT f ds) (d.at_ + 1) d.old.length d.nw.length := by unfold mfT; rw [List.foldl_append]; rfl
theorem spF_in {f : Mz.Mf} {L i n k : Nat} (h : Mz.Bd (L : Int) f) (hin : i + n ≤ L) (hL : L ≤ 1000000000) (hk : L - n + k ≤ 1000000000) : Mz.Bd ((L - n + k : Nat) : Int) (Mz.spF f ((i : Int) + 1) n k) := by
  intro x c hx
  unfold Mz.spF at hx
  rw [if_neg (by omega)] at hx
  cases p : f x with
  | none => simp [p] at hx
  | some y =>
    simp only [p] at hx
    have := h x y p
    simp only [Option.bind_some, Mz.spl] at hx
    split at hx
    · cases hx; omega
    · split at hx
      · split at hx
        · cases hx; omega
        · cases hx
      · cases hx; omega
theorem spF_dom {f : Mz.Mf} (h : ∀ x c, f x = some c → 97 ≤ x ∧ x ≤ 122) (a n k : Int) : ∀ x c, Mz.spF f a n k x = some c → 97 ≤ x ∧ x ≤ 122 := fun x c hx => by
  unfold Mz.spF at hx
  split at hx
  · exact h x c hx
  · cases p : f x with
    | none => simp [p] at hx
    | some y => exact h x y p
theorem app1_spl {l l' : List ByteArray} {d : Dl} (h : app1 l d = some l') : ∃ i : Nat, d.at_ = (i : Int) ∧ i + d.old.length ≤ l.length ∧ l' = spl l i d.old.length d.nw := by
  unfold app1 at h
  split at h
  · rename_i c
    obtain ⟨c1, c2, c3, c4⟩ := c
    cases h
    exact ⟨d.at_.toNat, by omega, by omega, rfl⟩
  · cases h
theorem apps_next {l lk lf : List ByteArray} {ds : List Dl} {k : Nat} {d : Dl} (hd : ds[k]? = some d) (hk : apps l (ds.take k) = some lk) (hf : apps l ds = some lf) : ∃ l', app1 lk d = some l' ∧ apps l (ds.take (k + 1)) = some l' := by
  have e1 : ds = ds.take k ++ d :: ds.drop (k + 1) := by
    obtain ⟨hlt, rfl⟩ := List.getElem?_eq_some_iff.1 hd
    simp
  rw [e1, apps_app, hk] at hf
  have hf' : (app1 lk d).bind (fun l' => apps l' (ds.drop (k + 1))) = some lf := hf
  cases q : app1 lk d with
  | none => rw [q] at hf'; cases hf'
  | some l' =>
    refine ⟨l', rfl, ?_⟩
    rw [take_snoc ds hd, apps_app, hk]
    show (app1 lk d).bind (fun l' => apps l' []) = some l'
    rw [q]; rfl
section
variable {Q : Nat → Prop} {B C t : Nat} {m : Tr} {T : Int → List ByteArray} {w w1 : World} {s : St} {N : Nat}
/-- What a way tells: an error of which E holds, or changes that lead to another state of which G holds, at most c. -/
def Led2 (Q : Nat → Prop) (B C t : Nat) (m : Tr) (T : Int → List ByteArray) (E : Int → Prop) (G : Tr → List Dl → Prop) (c : Nat) (w : World) (v : Value) (err : Int) (w' : World) : Prop :=
  Ff TP B w w' ∧ ((err ≠ 0 ∧ 0 ≤ err ∧ err < 1000 ∧ v = .slice none 0 0 ∧ E err ∧ StT Q B C t m T w') ∨
    (err = 0 ∧ ∃ ds m', Dw w.heap.size v ds w' ∧ StT Q B C t m' T w' ∧ apps (T m.now) ds = some (T m'.now) ∧ (∀ d ∈ ds, Smd d) ∧ ds.length ≤ c ∧ G m' ds))
theorem StT.gone (h : StT Q B C t m T w) {v : Value} {ds : List Dl} {m' : Tr} (q : Gone Q B C t w v ds m' w1) (I : Inw m') (hx : TxI m'.L T) (hs : Sml m'.L) (h1 : m'.next = m.next) (h2 : m'.most = m.most) (h3 : m'.L.length = m.L.length) : StT Q B C t m' T w1 :=
  ⟨q.2.1, Nat.le_trans h.hC q.2.2.size, Nat.le_trans h.hB q.2.2.size, I, by rw [h2]; exact h.mo, by rw [h2, h3]; exact h.ln, by rw [h1]; exact h.nx, hx, hs⟩
theorem undo_lead (h : StT Q B C t m T w) (hs : look m.L m.now = some s) (hN : ∀ x s, look m.L x = some s → s.by_.length ≤ N) : Calls Tryz.prog 51 #[.pointer (some ⟨t, 0, none⟩)] w fun e w1 => ∃ v err, e = .returned (.tuple #[v, .int .u16 err]) ∧ Led2 Q B C t m T (fun err => err = 121 ∧ s.fr = -1) (fun m' ds => s.fr ≠ -1 ∧ m' = { m with now := s.fr } ∧ ds = turnD s.by_) N w v err w1 := by
  have I := h.inw
  have F := I.inv.fam
  have hn := h.nx
  have hrg := rg_of (F.rg (by omega) I.inv.nw)
  by_cases he : s.fr = -1
  · refine (undo_end h.tw hrg hs he).mono ?_
    rintro e w' ⟨rfl, k, rfl⟩
    exact ⟨_, _, rfl, Ff.kp (kp_drewN _ _), .inl ⟨by decide, by decide, by decide, rfl, ⟨rfl, he⟩, h.kp (kp_drewN _ _)⟩⟩
  · refine (undo_any h.tw hrg hs he (F.few _ _ hs) (by decide)).mono ?_
    rintro e w' ⟨v, rfl, q⟩
    exact ⟨_, _, rfl, q.2.2, .inr ⟨rfl, _, _, q.1, h.gone q (I.up hs he) h.tx h.sm rfl rfl rfl, apps_turn (h.tx _ _ hs he), smd_turn (h.sm _ _ hs).2, by rw [turnD_len]; exact hN _ _ hs, he, rfl, rfl⟩⟩
theorem redo_lead (h : StT Q B C t m T w) (hs : look m.L m.now = some s) (hN : ∀ x s, look m.L x = some s → s.by_.length ≤ N) : Calls Tryz.prog 54 #[.pointer (some ⟨t, 0, none⟩)] w fun e w1 => ∃ v err, e = .returned (.tuple #[v, .int .u16 err]) ∧ Led2 Q B C t m T (fun err => err = 121 ∧ s.on = -1) (fun m' ds => s.on ≠ -1 ∧ m' = { m with now := s.on } ∧ ∃ s', look m.L s.on = some s' ∧ ds = s'.by_) N w v err w1 := by
  have I := h.inw
  have F := I.inv.fam
  have hn := h.nx
  have hrg := rg_of (F.rg (by omega) I.inv.nw)
  by_cases he : s.on = -1
  · refine (redo_end h.tw hrg hs he).mono ?_
    rintro e w' ⟨rfl, k, rfl⟩
    exact ⟨_, _, rfl, Ff.kp (kp_drewN _ _), .inl ⟨by decide, by decide, by decide, rfl, ⟨rfl, he⟩, h.kp (kp_drewN _ _)⟩⟩
  · obtain ⟨s', hs', hf'⟩ := F.on _ _ hs he
    refine (redo_any h.tw hrg hs he (rg_of (F.rg (by omega) (by rw [hs']; simp))) hs' (F.few _ _ hs') (by decide)).mono ?_
    rintro e w' ⟨v, rfl, q⟩
    have hlt := I.inv.lt
    have hap := h.tx _ _ hs' (by rw [hf']; omega)
    rw [hf'] at hap
    exact ⟨_, _, rfl, q.2.2, .inr ⟨rfl, _, _, q.1, h.gone q (I.down hs he) h.tx h.sm rfl rfl rfl, hap, (h.sm _ _ hs').2, hN _ _ hs', he, rfl, _, hs', rfl⟩⟩
end
end Go.Proofs.YtaefeakmlgjonaaGreat
/- lay: a change of the lines. -/
namespace Go.Proofs.YtaefeakmlgjonaaGreat
open Go.ChangeShapes Go.WideShapes Go.ChangeAt Go.RowKit Go.Maps Go.MapKept
set_option linter.unusedVariables false
set_option linter.unusedSimpArgs false
set_option maxRecDepth 100000
section
variable {B b M M' : Nat} {o o' : Tz.Own} {a : At} {s : BS} {w w1 : World} {N : Int} {ls : List ByteArray} {v : Value}
set_option maxHeartbeats 16000000 in
theorem lay_any (h : Bf B b o M a s w) (hl : s.ls.length ≤ 100000000 ∧ ∀ x ∈ s.ls, x.size ≤ 1000) {ms : List ByteArray} {oa : Option Addr} {i n oc : Nat} {nv : Value} (hv : Tz.Lies o w nv ms) (hm : Ln ms) (hin : i + n ≤ s.ls.length) (hM : M + 22 * (n + ms.length) < 280000000) :
    Calls Tryz.prog 75 #[.pointer (some ⟨b, 0, none⟩), .agg #[.int .i64 i, .slice oa n oc, nv]] w fun e w' => e = .returned (.tuple #[]) ∧ ∃ o', Bf B b o' (M + 22 * (n + ms.length)) a { s with ls := spl s.ls i n ms } w' ∧ FK B o o' w w' ∧ Tz.Keeps o o' w w' := by
  obtain ⟨na, nc, rfl, _, _⟩ := hv.form
  obtain ⟨p, hp⟩ : ∃ p, w.heap.size = p := ⟨_, rfl⟩
  obtain ⟨K, hK⟩ : ∃ K, ms.length = K := ⟨_, rfl⟩
  obtain ⟨W1, hW1⟩ : ∃ z, w.alloc (.cells #[.int .i64 i, .slice oa n oc, .slice na K nc] 89) = z := ⟨_, rfl⟩
  have k1 : Kp w W1 := by rw [← hW1]; exact kp_alloc _ _
  have b1 : Lc 89 p [.int .i64 i, .slice oa n oc, .slice na K nc] W1 := by rw [← hW1, ← hp]; exact Lc.new w [.int .i64 i, .slice oa n oc, .slice na K nc] 89
  have z0 := b1.at (j := 0) rfl
  have z1 := b1.at (j := 1) rfl
  have z2 := b1.at (j := 2) rfl
  have c0 := (h.kp_ k1).box.at (j := 0) rfl
  have hsz := sizes_le hl.2
  have hsm := sizes_le hm.2
  have hl1 := hl.1
  have hm1 := hm.1
  have HS : Hid (∀ z, Kp W1 z → Calls Tryz.prog 118 #[.pointer (some ⟨a.t, 0, none⟩), .int .i64 i, .int .i64 n, .slice na K nc] z fun e w' => e = .returned (.bool true) ∧ ∃ o', Bf B b o' (M + 22 * (n + K)) a { s with ls := spl s.ls i n ms } w' ∧ FK B o o' w w' ∧ Tz.Keeps o o' w w') := fun z kz => by
    have hz := h.kp_ (kp_trans k1 kz)
    have kk0 : Tz.Keeps o o w z := by
      have q := kp_trans k1 kz
      exact ⟨q.os, q.tape, q.output, q.size, fun j hj _ => q.block j hj, fun _ _ e => e⟩
    have hv' : Tz.Lies o z (.slice na K nc) ms := by
      rw [← hK]
      exact hv.keeps kk0
    refine (Tz.splice_ok hz.tr hv' hin (by omega) (by omega) (by omega)).mono ?_
    rintro e w' ⟨rfl, hA⟩
    obtain ⟨o', t', kk, ot⟩ := tz_after hA
    have e2 : Tz.mix s.ls ms i ms.length (i + n) = spl s.ls i n ms := by unfold Tz.mix spl; rw [List.take_length, List.append_assoc]
    rw [e2, hK] at t'
    obtain ⟨q1, q2⟩ := hz.tree t' kk ot
    exact ⟨rfl, o', q1, (FK.kp (kp_trans k1 kz) o).trans q2, kk0.trans kk⟩
  obtain ⟨t, ht⟩ : ∃ t, a.t = t := ⟨_, rfl⟩
  rw [ht] at HS c0
  rw [hK]
  clear h hl hv hm hM b1 hsz hsm hK ht k1 hin
  go_enter Tryz.func75, Tryz.ntmps75
  go_wp2_with fail
  go_region_with (go_at_call 118; refine Calls.mono (HS.out _ (by first | exact Below.refl _ _ | exact kp_drew _ | exact kp_drewN _ _)) ?_; rintro e w5 ⟨rfl, q⟩; have HX : Hid _ := q; clear q)
  all_goals
    clear HS
    go_wp2_with fail
    go_end0
    exact ⟨rfl, HX.out⟩
end
end Go.Proofs.YtaefeakmlgjonaaGreat
/- A change is opened. -/
namespace Go.Proofs.YtaefeakmlgjonaaGreat
open Go.ChangeShapes Go.WideShapes Go.ChangeAt Go.RowKit Go.Maps Go.MapKept
set_option linter.unusedVariables false
set_option linter.unusedSimpArgs false
set_option maxRecDepth 100000
section
variable {B b M M' : Nat} {o o' : Tz.Own} {a : At} {s : BS} {w w1 : World} {N : Int} {ls : List ByteArray} {v ov' : Value} {op' : List Dl}
/-- What is open has more behind it, and is laid anew. -/
theorem Bf.opened (h : Bf B b o M a s w) (hg : w.grownBy w1 a.ov.ownBlock) (h1 : Dx (RQ (Fre o)) a.C ov' op' w1) : Bf B b o M { a with ov := ov' } { s with op := op' } (w1.setCell ⟨b, 4, none⟩ ov') ∧ FK B o o w (w1.setCell ⟨b, 4, none⟩ ov') := by
  obtain ⟨cs, r1, _⟩ := h.op
  have f1 : Fr (fun k => some k = a.ov.ownBlock) w w1 := fr_grown hg
  have f2 : Fr (On b) w1 (w1.setCell ⟨b, 4, none⟩ ov') := fr_set b 4 ov' w1
  have typ : ∀ k, some k = a.ov.ownBlock → a.C ≤ k ∧ ∃ cur, w.heap[k]? = some (.cells cur 89 (0, 0)) := fun k e => by
    rcases r1.2 with ⟨z, _⟩ | ⟨g, cap, cur, z, hb, hg, _⟩
    · rw [z] at e; cases e
    · rw [z] at e; simp only [Value.ownBlock, Option.some.injEq] at e; subst e; exact ⟨hb, cur, hg⟩
  have f : Fr (fun k => some k = a.ov.ownBlock ∨ k = b) w (w1.setCell ⟨b, 4, none⟩ ov') := (f1.mono fun _ _ e => .inl e).trans (f2.mono fun k _ e => .inr (by unfold On at e; exact e))
  have hS : ∀ j ob, w.heap[j]? = some ob → (∀ cur fr, ob ≠ .cells cur 86 fr) → (∀ cur fr, ob = .cells cur 89 fr → j < a.C) → ¬ (some j = a.ov.ownBlock ∨ j = b) := fun j ob hj hn hd e => by
    rcases e with e | e
    · obtain ⟨q, cur, hc⟩ := typ j e
      rw [hj] at hc; cases hc
      have := hd _ _ rfl; omega
    · rw [e] at hj
      have := h.box; unfold Lc at this; rw [this] at hj; cases hj; exact hn _ _ rfl
  have hs : ∀ j, o j ≠ .free → (w1.setCell ⟨b, 4, none⟩ ov').heap[j]? = w.heap[j]? := fun j hj => f.block j (tz_lt h.tr hj) fun e => by
    rcases e with e | e
    · obtain ⟨_, cur, hc⟩ := typ j e; exact hj (h.fre hc (.inr (.inr (.inr rfl))))
    · rw [e] at hj; exact hj h.fb
  obtain ⟨es1, c1, hq1, _⟩ := h.mp
  obtain ⟨es2, c2, hq2, _⟩ := h.kp
  have bx1 : Lc 86 b _ w1 := h.box.fr f1 fun e => by
    obtain ⟨_, cur, hc⟩ := typ b e
    have := h.box; unfold Lc at this; rw [this] at hc; cases hc
  refine ⟨⟨h.lb, bx1.set 4 ov', tz_same h.tr f.size hs, h.ty.same hs, h.ol, h.mp.fr f.mz (hS _ _ hq1 (fun _ _ e => by cases e) fun _ _ e => by cases e), h.ml, h.kp.fr f.mz (hS _ _ hq2 (fun _ _ e => by cases e) fun _ _ e => by cases e), h.kl, h.ne, ?_, ?_, h.oc⟩, ⟨f.mono fun j hj e => ?_, fun _ _ e => e⟩⟩
  · refine h.st.frQ f (fun j ob hj hT => hS j ob hj (fun cur fr e => ?_) fun cur fr e => ?_) (fun j cur fr hj hc => hS j _ hj (fun _ _ e => by cases e) fun _ _ _ => hc) (fun j cur fr hj _ => hS j _ hj (fun _ _ e => by cases e) fun _ _ e => by cases e)
    · subst e; rcases hT with q | q <;> exact absurd q (by decide)
    · subst e; rcases hT with q | q <;> exact absurd q (by decide)
  · refine h1.frO f2 (fun j cur fr hj e => ?_) (fun j cur fr hj _ e => ?_)
    · have : j = b := by unfold On at e; exact e
      subst this; unfold Lc at bx1; rw [bx1] at hj; cases hj
    · have : j = b := by unfold On at e; exact e
      subst this; unfold Lc at bx1; rw [bx1] at hj; cases hj
  · rcases e with e | e
    · obtain ⟨q, cur, hc⟩ := typ j e
      exact ⟨Nat.le_trans h.oc q, .inr ⟨_, hc, .inr (.inr (.inr rfl))⟩⟩
    · rw [e]; exact ⟨h.lb, .inr ⟨_, h.box, .inr (.inr (.inl rfl))⟩⟩
end
end Go.Proofs.YtaefeakmlgjonaaGreat
/- change: a change of the lines is made, and is open then. -/
namespace Go.Proofs.YtaefeakmlgjonaaGreat
open Go.ChangeShapes Go.WideShapes Go.ChangeAt Go.RowKit Go.Maps Go.MapKept
set_option linter.unusedVariables false
set_option linter.unusedSimpArgs false
set_option maxRecDepth 100000
section
variable {B b M M' : Nat} {o o' : Tz.Own} {a : At} {s : BS} {w w1 : World} {N : Int} {ls : List ByteArray} {v : Value}
set_option maxHeartbeats 32000000 in
theorem change_any (h : Bf B b o M a s w) (hl : Ln s.ls) {os ms : List ByteArray} {oa na : Option Addr} {i n oc K nc : Nat} (ho : RQ (Fre o) (.slice oa n oc) os w) (hv : RQ (Fre o) (.slice na K nc) ms w) (hK : K = ms.length) (hm : Ln ms) (hin : i + n ≤ s.ls.length) (hM : M + 22 * (n + K) < 280000000) (hop : s.op.length ≤ 1000) :
    Calls Tryz.prog 45 #[.pointer (some ⟨b, 0, none⟩), .agg #[.int .i64 i, .slice oa n oc, .slice na K nc]] w fun e w' => e = .returned (.tuple #[]) ∧ ∃ o' ov', Bf B b o' (M + 22 * (n + K)) { a with ov := ov' } { s with ls := spl s.ls i n ms, op := s.op ++ [⟨i, os, ms⟩] } w' ∧ FK B o o' w w' ∧ ∀ j, j < w.heap.size → o j = .free → j ≠ b → some j ≠ a.ov.ownBlock → w'.heap[j]? = w.heap[j]? := by
  obtain ⟨p, hp⟩ : ∃ p, w.heap.size = p := ⟨_, rfl⟩
  obtain ⟨W1, hW1⟩ : ∃ z, w.alloc (.cells #[.int .i64 i, .slice oa n oc, .slice na K nc] 89) = z := ⟨_, rfl⟩
  have k1 : Kp w W1 := by rw [← hW1]; exact kp_alloc _ _
  have b1 : Lc 89 p [.int .i64 i, .slice oa n oc, .slice na K nc] W1 := by rw [← hW1, ← hp]; exact Lc.new w [.int .i64 i, .slice oa n oc, .slice na K nc] 89
  obtain ⟨tt, htt⟩ : ∃ t, a.t = t := ⟨_, rfl⟩
  have HSD : Hid (Sd p b i (.slice oa n oc) (.slice na K nc) (.pointer (some ⟨tt, 0, none⟩)) W1) := ⟨b1.at (j := 0) rfl, b1.at (j := 1) rfl, b1.at (j := 2) rfl, by rw [← htt]; exact (h.kp_ k1).box.at (j := 0) rfl⟩
  have s0 : ∀ y, Sd p b i (.slice oa n oc) (.slice na K nc) (.pointer (some ⟨tt, 0, none⟩)) y → y.cell? ⟨p, 0, none⟩ = some (.int .i64 i) := fun _ h => h.1
  have s1 : ∀ y, Sd p b i (.slice oa n oc) (.slice na K nc) (.pointer (some ⟨tt, 0, none⟩)) y → y.cell? ⟨p, 1, none⟩ = some (.slice oa n oc) := fun _ h => h.2.1
  have s2 : ∀ y, Sd p b i (.slice oa n oc) (.slice na K nc) (.pointer (some ⟨tt, 0, none⟩)) y → y.cell? ⟨p, 2, none⟩ = some (.slice na K nc) := fun _ h => h.2.2.1
  have HL : Hid (Calls Tryz.prog 75 #[.pointer (some ⟨b, 0, none⟩), .agg #[.int .i64 i, .slice oa n oc, .slice na K nc]] W1.drew fun e w' => e = .returned (.tuple #[]) ∧ (∃ o', Bf B b o' (M + 22 * (n + K)) a { s with ls := spl s.ls i n ms } w' ∧ FK B o o' w w' ∧ RQ (Fre o') (.slice oa n oc) os w' ∧ RQ (Fre o') (.slice na K nc) ms w' ∧ ∀ j, j < w.heap.size → o j = .free → w'.heap[j]? = w.heap[j]?) ∧ (Sd p b i (.slice oa n oc) (.slice na K nc) (.pointer (some ⟨tt, 0, none⟩)) W1 → Sd p b i (.slice oa n oc) (.slice na K nc) (.pointer (some ⟨tt, 0, none⟩)) w')) := by
    have kz := kp_drew W1
    have k2 := kp_trans k1 kz
    have hz := h.kp_ k2
    have hvz : RQ (Fre o) (.slice na K nc) ms W1.drew := ⟨row_kp hv.1 k2, hv.2⟩
    have hoz : RQ (Fre o) (.slice oa n oc) os W1.drew := ⟨row_kp ho.1 k2, ho.2⟩
    refine (lay_any hz ⟨Nat.le_trans hl.1 (by decide), hl.2⟩ (oa := oa) (oc := oc) hvz.lies hm hin (by rw [← hK]; exact hM)).mono ?_
    rintro e w' ⟨rfl, o', q1, q2, q3⟩
    rw [← hK] at q1
    refine ⟨rfl, ⟨o', q1, (FK.kp k2 o).trans q2, q2.rq hoz, q2.rq hvz, fun j hj hf => (q3.block j (Nat.lt_of_lt_of_le hj k2.size) hf).trans (k2.block j hj)⟩, fun hs => hs.eq ?_ (by rw [← htt]; exact q1.box.at (j := 0) rfl)⟩
    rw [q3.block p (b1.kp kz).lt (h.new (by omega))]
    exact kz.block p b1.lt
  have HOP : Hid (s.op.length ≤ 1000) := hop
  obtain ⟨i9, hi9, z0, z1, z2⟩ := info_parts infoDelta
  have HB1 : Hid (Lc 89 p [.int .i64 i, .slice oa n oc, .slice na K nc] W1) := b1
  clear h hl ho hv hm hin hM hop k1 b1 htt hK
  go_enter Tryz.func45, Tryz.ntmps45
  go_wp2_with fail
  refine wp_region_noPanic ?_
  refine wp_region_held_drew (S := Sd p b i (.slice oa n oc) (.slice na K nc) (.pointer (some ⟨tt, 0, none⟩))) (by kernel_rfl) (HSD.out) (fun hHeld => ?_)
  refine takeAt 0 (some 4) ?_ rfl rfl (by kernel_rfl) (by kernel_rfl) (by kernel_rfl) (fun _ _ _ h => h) (Or.inl ⟨by rfl, ?_⟩) hHeld ?_
  rotate_left
  · intro w hSw
    go_simp <;> with_reducible rfl
  try simp only [Act.put, List.setIfInBounds_toArray, List.set_cons_zero, List.set_cons_succ]
  refine takeAt 1 (some 5) ?_ rfl rfl (by kernel_rfl) (by kernel_rfl) (by kernel_rfl) (fun _ _ _ h => h) (Or.inl ⟨by rfl, ?_⟩) hHeld ?_
  rotate_left
  · intro w hSw
    go_simp <;> with_reducible rfl
  try simp only [Act.put, List.setIfInBounds_toArray, List.set_cons_zero, List.set_cons_succ]
  refine takeAt 2 (some 6) ?_ rfl rfl (by kernel_rfl) (by kernel_rfl) (by kernel_rfl) (fun _ _ _ h => h) (Or.inl ⟨by rfl, ?_⟩) hHeld ?_
  rotate_left
  · intro w hSw
    go_simp <;> with_reducible rfl
  try simp only [Act.put, List.setIfInBounds_toArray, List.set_cons_zero, List.set_cons_succ]
  refine takeAt 3 (some 7) ?_ rfl rfl (by kernel_rfl) (by kernel_rfl) (by kernel_rfl) (fun _ _ _ h => h) (Or.inl ⟨by rfl, ?_⟩) hHeld ?_
  rotate_left
  · intro w hSw
    go_simp <;> with_reducible rfl
  try simp only [Act.put, List.setIfInBounds_toArray, List.set_cons_zero, List.set_cons_succ]
  refine callAt 4 8 75 (vals := #[.pointer (some ⟨b, 0, none⟩), .agg #[.int .i64 i, .slice oa n oc, .slice na K nc]]) (by kernel_rfl) rfl rfl rfl rfl (by simp [Act.eval]) Tryz.func75 (by kernel_rfl) (by kernel_rfl) ?_
  refine Calls.mono (HL.out) ?_
  rintro e w5 ⟨rfl, q, q3⟩
  have HX : Hid _ := q
  have hs5 : Sd p b i (.slice oa n oc) (.slice na K nc) (.pointer (some ⟨tt, 0, none⟩)) w5 := q3 HSD.out
  clear q q3
  refine ⟨_, rfl, hs5, fun hHeld => ?_⟩
  try simp only [Act.put, List.setIfInBounds_toArray, List.set_cons_zero, List.set_cons_succ]
  refine wpAnyH_done (by kernel_rfl) ?_ _
  refine NoPanic.normal ?_
  clear HL
  obtain ⟨o', h5, f5, r5, v5, g5⟩ := HX.out
  have y0 := s0 w5 hs5
  have y1 := s1 w5 hs5
  have y2 := s2 w5 hs5
  obtain ⟨va, vc, hov, hv1, hv2⟩ := Dx.form h5.op
  obtain ⟨m, hm⟩ : ∃ m, s.op.length = m := ⟨_, rfl⟩
  have e9 : ({ s with ls := spl s.ls i n ms } : BS).op = s.op := rfl
  rw [e9, hm] at hov
  have y4 := h5.box.at (j := 4) rfl
  rw [hov] at y4
  have f4 := h5.box.fz 4
  have HF : Hid (Bf B b o' (M + 22 * (n + K)) a { s with ls := spl s.ls i n ms } w5 ∧ FK B o o' w w5 ∧ RQ (Fre o') (.slice oa n oc) os w5 ∧ RQ (Fre o') (.slice na K nc) ms w5 ∧ a.ov = .slice va m vc ∧ s.op.length = m ∧ m ≤ 1000) := ⟨h5, f5, r5, v5, hov, hm, by have := HOP.out; omega⟩
  have HG : Hid (∀ j, j < w.heap.size → o j = .free → w5.heap[j]? = w.heap[j]?) := g5
  clear s0 s1 s2 hs5 HSD HX h5 f5 r5 v5 g5 hov hv1 hv2 hm e9 HOP
  have HAP : Hid (∀ z, Kp w5 z → Dx (RQ (Fre o')) a.C (.slice va m vc) s.op z ∧ a.C ≤ z.heap.size) := fun z kz => ⟨by have := (HF.out.1.kp_ kz).op; rw [HF.out.2.2.2.2.1] at this; exact this, Nat.le_trans HF.out.1.st.hC kz.size⟩
  have HDR : Hid (∀ z, Kp (w5.alloc (.cells #[.int .i64 i, .slice oa n oc, .slice na K nc] 89)) z → Dr (fun _ => True) (RQ (Fre o')) (.slice (some ⟨w5.heap.size, 0, none⟩) 1 1) [⟨(i : Int), os, ms⟩] z) := fun z kz => by
    have kk := kp_trans (kp_alloc w5 (.cells #[.int .i64 i, .slice oa n oc, .slice na K nc] 89)) kz
    exact Dr.one (d := ⟨(i : Int), os, ms⟩) ⟨row_kp HF.out.2.2.1.1 kk, HF.out.2.2.1.2⟩ ⟨row_kp HF.out.2.2.2.1.1 kk, HF.out.2.2.2.1.2⟩ ((Lc.new w5 [.int .i64 i, .slice oa n oc, .slice na K nc] 89).kp kz)
  have HLN : Hid (s.op.length + [(⟨(i : Int), os, ms⟩ : Dl)].length = m + 1) := by show _ = _; rw [HF.out.2.2.2.2.2.1]; rfl
  have hm9 : m ≤ 1000 := HF.out.2.2.2.2.2.2
  have HEND : Hid (∀ z a' c' w6, Kp w5 z → Dx (RQ (Fre o')) a.C (.slice a' (m + 1) c') (s.op ++ [⟨(i : Int), os, ms⟩]) w6 → z.grownBy w6 (Value.slice va m vc).ownBlock → (w6.cell? ⟨b, 4, none⟩ = some (.slice va m vc) ∧ w6.frozen? ⟨b, 4, none⟩ = false) ∧ Hid (∃ o' ov', Bf B b o' (M + 22 * (n + K)) { a with ov := ov' } { s with ls := spl s.ls i n ms, op := s.op ++ [⟨i, os, ms⟩] } (w6.setCell ⟨b, 4, none⟩ (.slice a' (m + 1) c')) ∧ FK B o o' w (w6.setCell ⟨b, 4, none⟩ (.slice a' (m + 1) c')) ∧ ∀ j, j < w.heap.size → o j = .free → j ≠ b → some j ≠ a.ov.ownBlock → (w6.setCell ⟨b, 4, none⟩ (.slice a' (m + 1) c')).heap[j]? = w.heap[j]?)) := fun z a' c' w6 kz q1 q2 => by
    have hz := HF.out.1.kp_ kz
    rw [← HF.out.2.2.2.2.1] at q2
    obtain ⟨t1, t2⟩ := hz.opened q2 q1
    have bx : Lc 86 b _ w6 := hz.box.fr (fr_grown q2) fun e => by
      obtain ⟨cs, r1, _⟩ := hz.op
      rcases r1.2 with ⟨y, _⟩ | ⟨g, cap, cur, y, hb, hg, _⟩
      · rw [y] at e; cases e
      · rw [y] at e; simp only [Value.ownBlock, Option.some.injEq] at e; subst e
        have := hz.box; unfold Lc at this; rw [this] at hg; cases hg
    refine ⟨⟨?_, bx.fz 4⟩, o', _, t1, HF.out.2.1.trans ((FK.kp kz o').trans t2), fun j hj hf hb ho => ?_⟩
    · have := bx.at (j := 4) rfl
      rw [HF.out.2.2.2.2.1] at this; exact this
    · have j5 : j < w5.heap.size := Nat.lt_of_lt_of_le hj HF.out.2.1.size
      have jz : j < z.heap.size := Nat.lt_of_lt_of_le j5 kz.size
      have e1 := (fr_set b 4 (.slice a' (m + 1) c') w6).block j (Nat.lt_of_lt_of_le jz (fr_grown q2).size) (fun e => hb (by unfold On at e; exact e))
      have e2 := (fr_grown q2).block j jz ho
      rw [e1, e2, kz.block j j5]; exact HG.out j hj hf
  have ka := kp_alloc w5 (.cells #[.int .i64 i, .slice oa n oc, .slice na K nc] 89)
  have y4a := kp_cell ka y4
  go_wp2_with fail
  go_region_law (refine step_del (M := m + 1) rfl (.tmp 13) (.tmp 15) rfl (okRQ _ _) rfl (HAP.out _ (by first | exact ka | exact kp_trans ka (kp_drew _) | exact kp_trans (kp_drew _) (kp_alloc _ _))).1 rfl (HDR.out _ (by first | exact Below.refl _ _ | exact kp_drew _)) HLN.out (by omega) (HAP.out _ (by first | exact ka | exact kp_trans ka (kp_drew _) | exact kp_trans (kp_drew _) (kp_alloc _ _))).2 ?_; intro a' c' w6 q1 q2 _; obtain ⟨⟨y5, f5⟩, HE⟩ := HEND.out _ a' c' w6 (by first | exact ka | exact kp_trans ka (kp_drew _) | exact kp_trans (kp_drew _) (kp_alloc _ _)) q1 q2; clear q1 q2)
  all_goals
    go_end0
    exact ⟨rfl, HE.out⟩
end
end Go.Proofs.YtaefeakmlgjonaaGreat
