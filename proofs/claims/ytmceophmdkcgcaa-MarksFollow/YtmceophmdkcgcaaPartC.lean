/- Texts that the proof of the law stands on: QK, QL, MA, MC, MH, MT, MCW, MP, MG, MI. -/
import Derived.Test.YtmceophmdkcgcaaPartB
import Derived.Test.YtmceophmdkcgcaaPartA
import Derived.RangeFuncNested
import Derived.RangeFuncBound
import Derived.RangeFuncCalls
import Derived.RangeFuncLeaves
import Derived.RangeFuncWrites
import Derived.RangeFuncBox
import Derived.Sort.MapsRangeIn
import Derived.OwnWalkIn
import Derived.TacticsInMore
import Derived.RegionIn
import Derived.LoopNIn
import Derived.LoopIn
import Derived.Shelf.Abstract
import Derived.Shelf.SlMaps.Clone
import Derived.DeepKeys
import Derived.Lib.SmallJoins
import Derived.OpenShut
import Derived.Deep.Slices
import Derived.Deep.RegionWith
import Derived.Lib.MinMax
/- The keys of a map, one by one; gathered in a list. -/
namespace Go.Proofs.Ytmceophmdkcgcaa
open Go.ChangeShapes Go.WideShapes Go.ChangeAt Go.RowKit Go.Maps Go.MapKept Go.Shelf
set_option linter.unusedVariables false
set_option linter.unusedSimpArgs false
attribute [local go_sem] Oper.semAt_some
section
variable {F : Fence} {n : Nat} {b r c : Nat} {m : Int → Option Value} {left : Int → Bool} {w : World} {ops : Array Oper} {rest : List Oper} {o : Oper} {a : Act} {Q : Exit → Act → World → Prop}
theorem wpli_range (hg : o.guard = none) (x : Operand) (T E : TypeId) (hop : o.op = Op.range T x) (ht : Try.prog.underlying T = some (.map 5 E)) (hm : a.eval x = .map (some b)) (h : Mp b m w)
    (hK : ∀ w' c, Rgg b w.heap.size m (fun x => (m x).isSome) c w' → w.grownBy w' none → w'.heap.size = w.heap.size + 1 → wpListIn F n Try.prog ops Q rest (a.put o.dst (.pointer (some ⟨w.heap.size, 0, none⟩))) w') :
    wpListIn F n Try.prog ops Q (o :: rest) a w := by
  refine wpListIn_plain hg fun K' hK' => ?_
  obtain ⟨w', c, hrun, r1, r2, r3⟩ := h.ranged ht
  unfold Oper.wpIn
  refine ⟨by simp [Oper.about, hop], ?_⟩
  rw [Oper.semAt_plain F _ _ (by rw [hop]; intro c hc'; cases hc')]
  simp [execOp, hop, hm, hrun, Result.andThen]
  exact hK' _ _ (hK w' c r1 ⟨r2.os, r2.tape, r2.output, r2.size, fun i hi _ => r2.block i hi⟩ r3)
theorem wpli_next (hg : o.guard = none) (x : Operand) (hop : o.op = Op.next x false) (hm : a.eval x = .pointer (some ⟨r, 0, none⟩)) (h : Rgg b r m left c w)
    (h0 : (∀ y, left y = false) → wpListIn F n Try.prog ops Q rest (a.put o.dst (.tuple #[.bool false])) w)
    (h1 : ∀ y v w' c', 0 ≤ y → y < 256 → left y = true → m y = some v → Rgg b r m (fun z => left z && !decide (z = y)) c' w' → c' < c → w.grownBy w' (some r) → w'.heap.size = w.heap.size →
      (Instr.entry (.pointer (some ⟨r, 0, none⟩))).run Try.prog w' = .ok (.tuple #[.int .u8 y, v]) w' → wpListIn F n Try.prog ops Q rest (a.put o.dst (.tuple #[.bool true, .int .u8 y, v])) w') :
    wpListIn F n Try.prog ops Q (o :: rest) a w := by
  refine wpListIn_plain hg fun K' hK' => ?_
  unfold Oper.wpIn
  refine ⟨by simp [Oper.about, hop], ?_⟩
  rw [Oper.semAt_plain F _ _ (by rw [hop]; intro c hc'; cases hc')]
  rcases h.next o.type with ⟨h2, hrun⟩ | ⟨y, v, w', c', q1, q2, q3, q4, hrun, q5, q6, q7, q8, q9⟩
  · simp [execOp, hop, hm, hrun, Result.andThen]
    exact hK' _ _ (h0 h2)
  · simp [execOp, hop, hm, hrun, Result.andThen]
    exact hK' _ _ (h1 y v w' c' q1 q2 q3 q4 q5 q6 ⟨q7.os, q7.tape, q7.output, q7.size, fun i hi hne => q7.block i hi fun e => hne (by unfold On at e; rw [e])⟩ q8 q9)
end
/-- Keys that have come: each once, all but those that are left. -/
def Cld (f : Int → Option Value) (left : Int → Bool) (ss : List Int) : Prop := ss.Nodup ∧ ∀ x, x ∈ ss ↔ (f x ≠ none ∧ left x = false)
/-- All keys, each once. -/
def Kys (f : Int → Option Value) (ss : List Int) : Prop := ss.Nodup ∧ ∀ x, x ∈ ss ↔ f x ≠ none
section
variable {b r c : Nat} {f : Int → Option Value} {left : Int → Bool} {w w1 : World} {ss : List Int}
theorem Cld.start (f : Int → Option Value) : Cld f (fun x => (f x).isSome) [] := by
  refine ⟨List.nodup_nil, fun x => ?_⟩
  cases q : f x <;> simp [q]
theorem Cld.step (h : Cld f left ss) {y : Int} (hy : left y = true) (hf : f y ≠ none) : Cld f (fun z => left z && !decide (z = y)) (ss ++ [y]) := by
  refine ⟨List.nodup_append.2 ⟨h.1, by simp, fun a ha b hb => ?_⟩, fun x => ?_⟩
  · rw [List.mem_singleton] at hb; subst hb
    rintro rfl
    rw [((h.2 a).1 ha).2] at hy; cases hy
  · rw [List.mem_append, List.mem_singleton, h.2 x]
    by_cases q : x = y
    · subst q; simp [hf]
    · simp [q]
theorem Cld.end_ (h : Cld f left ss) (hl : ∀ x, left x = false) : Kys f ss := ⟨h.1, fun x => by rw [h.2 x]; simp [hl x]⟩
theorem nodup_len : ∀ (k : Nat) (lo : Int) (l : List Int), l.Nodup → (∀ x ∈ l, lo ≤ x ∧ x < lo + k) → l.length ≤ k := by
  intro k
  induction k with
  | zero => intro lo l _ h; cases l with
    | nil => simp
    | cons x r => have := h x (by simp); omega
  | succ k ih =>
    intro lo l hn h
    have h1 := ih (lo + 1) (l.filter fun x => decide (x ≠ lo)) (hn.filter _) (fun x hx => by
      obtain ⟨m1, m2⟩ := List.mem_filter.1 hx
      have := h x m1
      simp only [decide_eq_true_eq] at m2
      omega)
    have h2 : l.length ≤ (l.filter fun x => decide (x ≠ lo)).length + 1 := by
      clear h1 h ih
      induction l with
      | nil => simp
      | cons y t iht =>
        obtain ⟨n1, n2⟩ := List.nodup_cons.1 hn
        by_cases q : y = lo
        · subst q
          have : t.filter (fun x => decide (x ≠ y)) = t := List.filter_eq_self.2 fun x hx => by
            simp only [decide_eq_true_eq]; rintro rfl; exact n1 hx
          rw [List.filter_cons_of_neg (by simp), this]; simp
        · rw [List.filter_cons_of_pos (by simpa using q)]
          have := iht n2
          simp only [List.length_cons]; omega
    omega
theorem Rgg.of_walks (h : Rgg b r f left c w) (hk : KeepsWalks w w1) : Rgg b r f left c w1 := by
  obtain ⟨es, cl, s, q, c0, h1, h2, h3, h4, rest⟩ := h
  exact ⟨es, cl, s, q, c0, hk.same b _ h1 rfl, h2, h3, hk.same r _ h4 rfl, rest⟩
theorem Rgg.iter_walk (h : Rgg b r f left c w) : ∃ o : Obj, w.heap[r]? = some o ∧ o.isWalk = true := by
  obtain ⟨es, cl, s, q, c0, h1, h2, h3, h4, rest⟩ := h
  exact ⟨_, h4, rfl⟩
end
set_option maxHeartbeats 1000000 in
theorem keys_any (b : Nat) (w : World) : Calls Try.prog 25 #[.map (some b)] w fun e w' => e = .returned (.func (.func 32) #[] #[.pointer (some ⟨w.heap.size, 0, none⟩)]) ∧ w' = w.alloc (.cells #[.map (some b)] 52) := by
  have hmf : ∀ (fn : Fn) (first cap : Array Value) (w : World), (Instr.makeFunc fn first cap).run Try.prog w = .ok (.func fn first cap) w := fun _ _ _ _ => rfl
  go_enter Try.func25, Try.ntmps25
  go_wp2
  go_ret
  exact ⟨rfl, rfl⟩
set_option maxRecDepth 100000 in
set_option maxHeartbeats 2000000 in
theorem keys1_in (F : Fence) (n : Nat) (hF : F.fn 32) (hro : F.round = none) (hn : 1 ≤ n) (l Bm b N : Nat) (f : Int → Option Value) (hN : ∀ ss x, (ss ++ [x]).Nodup → (∀ y ∈ ss ++ [x], f y ≠ none) → ss.length < N) (J Jx : List Int → World → Prop)
    (hY : ∀ pre x W, J pre W → pre.length < N → YieldAt F (n - 1) Try.prog l #[.int .u8 x] W fun e W' => (e = .returned (.bool true) ∧ J (pre ++ [x]) W' ∧ KeepsWalks W W') ∨ (e = .returned (.bool false) ∧ Jx (pre ++ [x]) W'))
    (W : World) (hJ : AbidesFrom W.heap.size J) (hm : W.cell? ⟨Bm, 0, none⟩ = some (.map (some b))) (hown : Mp b f W) (h0 : J [] W) :
    CallsIn F n Try.prog 32 #[.func (.yield l) #[] #[], .pointer (some ⟨Bm, 0, none⟩)] W fun e W' => (∃ v, e = .returned v) ∧ ((∃ ss, Kys f ss ∧ J ss W') ∨ (∃ pre, True ∧ Jx pre W')) := by
  refine callsIn_of_wp Try.func32 rfl hF ?_ hro
  simp only [Try.ntmps32, List.size_toArray, List.length_cons, List.length_nil, Nat.reduceAdd, Nat.reduceSub, Array.replicate_succ, Array.replicate_zero, List.push_toArray, List.append_toArray, List.nil_append, List.cons_append]
  have HN : Hid _ := hN
  have HY : Hid _ := hY
  have HJ : Hid (AbidesFrom W.heap.size J) := hJ
  clear hN hY hJ
  gi_wp2_with (first | (gi_at_range; refine wpli_range rfl _ 52 3 rfl Try.underlying52 rfl hown ?_; intro w0 c0 hrg0 hg0 hs0) | gi_in)
  go_frame
  have HS : Hid (J [] w0) := HJ.out [] W w0 none h0 hg0 (fun r e => by cases e)
  clear h0 hg0 hs0 hm hown
  gi_loopw [3] (fun _ wr => ∃ (left : Int → Bool) (cnt : Nat) (ss : List Int), Hid (Rgg b W.heap.size f left cnt wr ∧ Cld f left ss ∧ J ss wr)) (fun _ wr => wr.rangeLeft b W.heap.size)
  case atStart => exact ⟨_, _, [], hrg0, Cld.start f, HS.out⟩
  case round =>
    obtain ⟨left, cnt, ss, HQ⟩ := hrel
    clear hrg0 HS
    have hrg := HQ.out.1
    gi_wp2_with (first | (gi_at_next; refine wpli_next rfl _ rfl rfl hrg ?_ ?_) | gi_in)
    · intro hl
      have HE : Hid (∃ ss, Kys f ss ∧ J ss wr) := ⟨ss, HQ.out.2.1.end_ hl, HQ.out.2.2⟩
      clear hl hrg HQ
      gi_wp2
      go_end0
      exact ⟨⟨_, rfl⟩, .inl HE.out⟩
    · intro y v w2 c2 y0 y1 hly hy hr2 hlt2 hg2 hs2 hen
      have hC := HQ.out.2.1.step hly (by rw [hy]; simp)
      have hlen : ss.length < N := HN.out ss y hC.1 fun z hz => ((hC.2 z).1 hz).1
      have hJ2 : J ss w2 := HJ.out ss wr w2 (some W.heap.size) HQ.out.2.2 hg2 (fun r e => by cases e; exact ⟨Nat.le_refl _, hrg.iter_walk⟩)
      obtain ⟨fn, tmps, assign, body, hyl, hR⟩ := HY.out ss y w2 hJ2 hlen
      have HR : Hid (wr.rangeLeft b W.heap.size = cnt) := hrg.left_eq
      have HC : Hid _ := hC
      have HL : Hid (c2 < cnt) := hlt2
      have HR2 : Hid (Rgg b W.heap.size f (fun z => left z && !decide (z = y)) c2 w2) := hr2
      clear hs2 hg2 hly hy hrg HQ hJ2 hlen hC hlt2 hr2
      gi_wp2
      refine hR.mono ?_
      rintro e W3 (⟨rfl, hJ3, hk3⟩ | ⟨rfl, hJx3⟩)
      · have HX : Hid (Rgg b W.heap.size f (fun z => left z && !decide (z = y)) c2 W3 ∧ Cld f (fun z => left z && !decide (z = y)) (ss ++ [y]) ∧ J (ss ++ [y]) W3) := ⟨HR2.out.of_walks hk3, HC.out, hJ3⟩
        clear hJ3 hk3 HR2 HC hen
        gi_wp2
        go_roundw
        case rel => exact ⟨_, c2, _, HX.out⟩
        case measure => rw [HX.out.1.left_eq, HR.out]; exact HL.out
      · clear HR2 HC hen HL HR
        gi_wp2
        refine bodyPost_ret (results_none rfl _ _ _) rfl ?_
        exact ⟨⟨_, rfl⟩, .inr ⟨_, trivial, hJx3⟩⟩
theorem keys_seq (F : Fence) (n : Nat) (hF : F.fn 32) (hro : F.round = none) (hn : 1 ≤ n) (Bm b N : Nat) (f : Int → Option Value) (hN : ∀ ss x, (ss ++ [x]).Nodup → (∀ y ∈ ss ++ [x], f y ≠ none) → ss.length < N) {W3 : World} (hB : Lc 52 Bm [.map (some b)] W3) (hm : Mp b f W3) :
    SeqStopsK F n Try.prog 32 #[.pointer (some ⟨Bm, 0, none⟩)] (fun x : Int => #[.int .u8 x]) KeepsWalks (fun ss => Kys f ss) (fun _ => True) N W3 := by
  intro l J Jx W hW hJ _ hY h0
  exact keys1_in F n hF hro hn l Bm b N f hN J Jx hY W hJ ((hB.kp hW).at (j := 0) rfl) (hm.kp hW) h0
end Go.Proofs.Ytmceophmdkcgcaa
/- Keys are gathered and sorted: AppendSeq, Collect, Sorted. -/
namespace Go.Proofs.Ytmceophmdkcgcaa
open Go.ChangeShapes Go.WideShapes Go.ChangeAt Go.RowKit Go.Maps Go.MapKept Go.Shelf Go.Sort
set_option linter.unusedVariables false
set_option linter.unusedSimpArgs false
attribute [local go_sem] Oper.semAt_some
/-- Bytes as they lie in memory. -/
def zcs (l : List Int) : List Value := l.map (Value.int .u8)
theorem zcs_len (l : List Int) : (zcs l).length = l.length := by simp [zcs]
theorem zcs_one (l : List Int) : ∀ u ∈ zcs l, u.oneCell' = true := fun u hu => by
  obtain ⟨b, _, rfl⟩ := List.mem_map.1 hu
  rfl
/-- What is gathered lies in box B. -/
structure Apd (w : World) (B : Nat) (pre : List Int) (v : Value) (W : World) : Prop where
  box : Lc 22 B [v] W
  row : W.ownsRow w.heap.size 5 1 v pre.length (zcs pre)
  kp : Kp w W
  ge : w.heap.size ≤ B
section
variable {w W W1 : World} {B : Nat} {pre : List Int} {v : Value}
theorem Apd.grown (h : Apd w B pre v W) {row : Option Nat} {B0 : Nat} (hg : W.grownBy W1 row) (hr : ∀ r, row = some r → B0 ≤ r ∧ ∃ o : Obj, W.heap[r]? = some o ∧ o.isCells = false) (hB : w.heap.size ≤ B0) : Apd w B pre v W1 := by
  have f : Fr (fun k => row = some k) W W1 := ⟨hg.os, hg.tape, hg.output, hg.size, fun k hk q => hg.block k hk fun e => q e.symm⟩
  have hn : ∀ k c e g, W.heap[k]? = some (.cells c e g) → ¬ row = some k := fun k c e g hk q => by
    obtain ⟨_, o, h1, h2⟩ := hr k q
    rw [hk] at h1; cases h1; cases h2
  refine ⟨h.box.fr f (hn B _ _ _ h.box), row_fr h.row f fun j hj q => ?_, h.kp.trans (f.below h.kp.size fun k hk q => by have := (hr k q).1; omega), h.ge⟩
  rcases h.row.2 with ⟨e, _⟩ | ⟨g, cap, cur, e, _, hgr, _⟩
  · rw [e] at hj; cases hj
  · rw [e] at hj; simp only [Value.ownBlock, Option.some.injEq] at hj
    subst hj; exact hn g _ _ _ hgr q
/-- One more. -/
theorem Apd.more (h : Apd w B pre v W) {w1 : World} {v' : Value} {x : Int} (ho : w1.ownsRow w.heap.size 5 1 v' (pre.length + 1) (zcs pre ++ [.int .u8 x])) (hg : (W.alloc (.cells #[.int .u8 x] 5)).grownBy w1 v.ownBlock) :
    (w1.cell? ⟨B, 0, none⟩ = some v ∧ w1.frozen? ⟨B, 0, none⟩ = false) ∧ Apd w B (pre ++ [x]) v' (w1.setCell ⟨B, 0, none⟩ v') ∧ KeepsWalks W (w1.setCell ⟨B, 0, none⟩ v') ∧ ∀ B0, KeepsFrom B0 W (w1.setCell ⟨B, 0, none⟩ v') := by
  have k := kp_alloc W (.cells #[.int .u8 x] 5)
  have hb0 := h.box.kp k
  have hr0 := row_kp h.row k
  have hb1 : Lc 22 B [v] w1 := hb0.heap (hg.block B hb0.lt fun e => row_ne hr0 hb0 (by decide) e.symm)
  have f0 : Fr (fun k => v.ownBlock = some k) W w1 := ⟨hg.os.trans k.os, hg.tape.trans k.tape, hg.output.trans k.output, Nat.le_trans k.size hg.size, fun j hj q => by
    rw [hg.block j (Nat.lt_of_lt_of_le hj k.size) fun e => q e.symm]; exact k.block j hj⟩
  have f1 : Fr (fun k => k = B ∨ v.ownBlock = some k) W (w1.setCell ⟨B, 0, none⟩ v') := (f0.mono fun k _ q => Or.inr q).trans (Fr.setCell (Or.inl rfl) w1)
  have hcells : ∀ k, (k = B ∨ v.ownBlock = some k) → ∃ c e g, W.heap[k]? = some (.cells c e g) := fun k hk => by
    rcases hk with rfl | hk
    · exact ⟨_, _, _, h.box⟩
    · rcases h.row.2 with ⟨q, _⟩ | ⟨g, cap, cur, rfl, _, hg, _⟩
      · rw [q] at hk; cases hk
      · simp only [Value.ownBlock, Option.some.injEq] at hk
        exact ⟨_, _, _, hk ▸ hg⟩
  have hsame : ∀ (k : Nat) (o : Obj), W.heap[k]? = some o → o.isCells = false → (w1.setCell ⟨B, 0, none⟩ v').heap[k]? = some o := fun k o hk ho => by
    rw [f1.block k (Array.getElem?_eq_some_iff.1 hk).1 fun q => ?_]
    · exact hk
    · obtain ⟨c, e, g, hc⟩ := hcells k q
      rw [hc] at hk; cases hk; cases ho
  refine ⟨⟨hb1.at rfl, hb1.fz _⟩, ⟨by simpa using hb1.set 0 v', ?_, h.kp.trans (f1.below h.kp.size fun k hk q => ?_), h.ge⟩, ⟨f1.size, fun k o hk ho => hsame k o hk (by cases o <;> first | rfl | cases ho)⟩, fun B0 => ⟨f1.size, fun k o _ hk ho => hsame k o hk ho⟩⟩
  · have e1 : (pre ++ [x]).length = pre.length + 1 := by simp
    have e2 : zcs (pre ++ [x]) = zcs pre ++ [.int .u8 x] := by simp [zcs]
    rw [e1, e2]
    exact row_fr ho (fr_set B 0 v' w1) fun j hj q => by
      unfold On at q
      subst q
      exact row_ne ho hb1 (by decide) hj
  · rcases q with rfl | q
    · have := h.ge; omega
    · have := (h.row.lt k q).1; omega
end
set_option maxHeartbeats 4000000 in
set_option maxRecDepth 100000 in
theorem appendSeq_any {b Bm : Nat} {f : Int → Option Value} {w : World} (hB : Lc 52 Bm [.map (some b)] w) (hm : Mp b f w) (hd : ∀ x, f x ≠ none → 97 ≤ x ∧ x ≤ 122) :
    Calls Try.prog 36 #[.slice none 0 0, .func (.func 32) #[] #[.pointer (some ⟨Bm, 0, none⟩)]] w fun e w' => ∃ (v : Value) (ss : List Int), e = .returned v ∧ Kys f ss ∧ w'.ownsRow w.heap.size 5 1 v ss.length (zcs ss) ∧ Kp w w' := by
  obtain ⟨i9, hi9, z0, z1, z2⟩ := info_parts infoUB
  have hN : ∀ (ss : List Int) (x : Int), (ss ++ [x]).Nodup → (∀ y ∈ ss ++ [x], f y ≠ none) → ss.length < 26 := fun ss x h1 h2 => by
    have := nodup_len 26 97 (ss ++ [x]) h1 fun y hy => by have := hd y (h2 y hy); omega
    simp at this; omega
  refine (callsIn_wide (n := 4)).1 ?_
  refine callsIn_of_wp_marks Try.func36 rfl trivial ?_ rfl
  simp only [Try.ntmps36, List.size_toArray, List.length_cons, List.length_nil, Nat.reduceAdd, Nat.reduceSub, Array.replicate_succ, Array.replicate_zero, List.push_toArray, List.append_toArray, List.nil_append, List.cons_append]
  refine wpIn_wide.2 ?_
  have H0 : Hid (Apd w w.heap.size [] (.slice none 0 0) (w.alloc (.cells #[.slice none 0 0] 22))) := ⟨Lc.new w [.slice none 0 0] 22, World.ownsRow_nil _ _ _ _, kp_alloc _ _, Nat.le_refl _⟩
  have HSQ : Hid (SeqStopsK Fence.wide 3 Try.prog 32 #[.pointer (some ⟨Bm, 0, none⟩)] (fun x : Int => #[.int .u8 x]) KeepsWalks (fun ss => Kys f ss) (fun _ => True) 26 (w.alloc (.cells #[.slice none 0 0] 22))) := keys_seq Fence.wide 3 trivial rfl (by omega) Bm b 26 f hN (hB.kp (kp_alloc _ _)) (hm.kp (kp_alloc _ _))
  have hz := alloc_size w (.cells #[.slice none 0 0] 22)
  clear hB hm hN hd
  go_wp2_with fail
  generalize w.alloc (.cells #[.slice none 0 0] 22) = W0 at H0 HSQ hz ⊢
  refine (wpIn_wide (n := 4)).1 (wpIn_rangeFunc_ownG rfl (by omega) (gf := 32) (lb := #[.pointer (some ⟨Bm, 0, none⟩)]) rfl trivial (enters_of Try.func32 (by kernel_rfl) rfl)
    HSQ.out (fun h k => h.trans k) (fun W l o o' hl h1 h2 h3 => KeepsWalks.putObj o' h1 h3) (Below.refl _ _) (fun _ => rfl)
    (fun pre W => ∃ v, Apd w w.heap.size pre v W) (fun _ _ _ => False)
    (fun s A B row hs hg hr => by obtain ⟨v, hs⟩ := hs; exact ⟨v, hs.grown hg hr (by omega)⟩)
    (fun _ _ _ _ _ hs _ _ => hs) ⟨_, H0.out⟩
    (fun x => { tmps := #[.slice none 0 0, .func (.func 32) #[] #[.pointer (some ⟨Bm, 0, none⟩)], .pointer (some ⟨w.heap.size, 0, none⟩), undef, .slice none 0 0, .int .u8 x, .func (.func 32) #[] #[.pointer (some ⟨Bm, 0, none⟩)], .int .u8 x, undef, undef, undef, undef, undef], defers := [] }) ?assign ?body ?done ?stop)
  case assign =>
    intro l p W K hK
    gi_wp2
    exact hK
  case body =>
    rintro l pre x W ⟨v, hR⟩ hpre
    have c0 := hR.box.at (j := 0) rfl
    obtain ⟨va, vc, rfl, v1, v2⟩ := owns_form hR.row
    obtain ⟨K, hK⟩ : ∃ K, pre.length = K := ⟨_, rfl⟩
    have HM : Hid (∀ w1 v', w1.ownsRow w.heap.size 5 1 v' (K + 1) (zcs pre ++ [.int .u8 x]) → (W.alloc (.cells #[.int .u8 x] 5)).grownBy w1 (Value.slice va pre.length vc).ownBlock → (w1.cell? ⟨w.heap.size, 0, none⟩ = some (Value.slice va pre.length vc) ∧ w1.frozen? ⟨w.heap.size, 0, none⟩ = false) ∧ Hid (Apd w w.heap.size (pre ++ [x]) v' (w1.setCell ⟨w.heap.size, 0, none⟩ v') ∧ KeepsWalks W (w1.setCell ⟨w.heap.size, 0, none⟩ v') ∧ ∀ B0, KeepsFrom B0 W (w1.setCell ⟨w.heap.size, 0, none⟩ v'))) := by
      intro w1 v' q1 q2
      rw [← hK] at q1
      exact hR.more q1 q2
    have HR : Hid ((W.alloc (.cells #[.int .u8 x] 5)).ownsRow w.heap.size 5 1 (.slice va K vc) K (zcs pre)) := by rw [← hK]; exact row_kp hR.row (kp_alloc _ _)
    have HNN : Hid (w.heap.size ≤ (W.alloc (.cells #[.int .u8 x] 5)).heap.size) := by
      have := alloc_size W (.cells #[.int .u8 x] 5)
      have := hR.kp.size
      show _ ≤ _
      omega
    rw [hK] at c0 HM hpre
    clear hR hK v1 v2 HSQ H0
    gi_wp2_with (first | (gi_at_builtin; refine wpListIn_append_own _ rfl (.tmp 8) (.tmp 10) 22 rfl w.heap.size 5 i9 _ 1 1 Try.underlying22 hi9 z0 z1 z2 rfl (by decide) (.slice va K vc) K (zcs pre) rfl HR.out ⟨W.heap.size, 0, none⟩ 1 1 [.int .u8 x] rfl rfl (cell_one_new _ _ _) (by simp [Value.oneCell']) (by unfold maxLen; omega) (by omega) HNN.out ?_; intro v' w1 q1 q2 q3; clear q3; obtain ⟨⟨c1, f1⟩, HP⟩ := HM.out w1 v' q1 q2; obtain ⟨a', c', rfl, q4, q5⟩ := owns_form q1; clear q1 q2 q4 q5) | gi_in)
    gi_wp2
    exact ⟨HP.out.2.2 _, HP.out.2.1, _, HP.out.1⟩
  case done =>
    rintro D xs W hD hxs ⟨v, hR⟩ hK
    have c0 := hR.box.at (j := 0) rfl
    obtain ⟨va, vc, rfl, v1, v2⟩ := owns_form hR.row
    have HK : Hid (Kp w (W.putObj D (.deferred none)) ∧ (W.putObj D (.deferred none)).ownsRow w.heap.size 5 1 (.slice va xs.length vc) xs.length (zcs xs)) := by
      have hf : Fr (On D) W (W.putObj D (.deferred none)) := ⟨rfl, rfl, rfl, by simp, fun k _ hn => World.putObj_heap_other hn⟩
      refine ⟨hR.kp.trans (hf.below hR.kp.size fun k hk q => by unfold On at q; omega), row_fr hR.row hf fun j hj q => ?_⟩
      unfold On at q
      subst q
      rcases hR.row.2 with ⟨e, _⟩ | ⟨g, cap, cur, e, _, hg, _⟩
      · rw [e] at hj; cases hj
      · rw [e] at hj; simp only [Value.ownBlock, Option.some.injEq] at hj
        rw [hj, hK] at hg; cases hg
    have HX : Hid (Kys f xs) := hxs
    clear v1 v2 hR HSQ H0 hxs
    go_wp2_with fail
    refine ⟨by simp, .inl ⟨_, _, rfl, run_takeDeferred hK, ?_⟩⟩
    exact ⟨_, results_tmp rfl _ _ _, .slice va xs.length vc, xs, rfl, HX.out, HK.out.2, HK.out.1⟩
  case stop =>
    rintro D c pre W _ _ h _
    exact h.elim
set_option maxHeartbeats 1000000 in
theorem collect_any {b Bm : Nat} {f : Int → Option Value} {w : World} (hB : Lc 52 Bm [.map (some b)] w) (hm : Mp b f w) (hd : ∀ x, f x ≠ none → 97 ≤ x ∧ x ≤ 122) :
    Calls Try.prog 30 #[.func (.func 32) #[] #[.pointer (some ⟨Bm, 0, none⟩)]] w fun e w' => ∃ (v : Value) (ss : List Int), e = .returned v ∧ Kys f ss ∧ w'.ownsRow w.heap.size 5 1 v ss.length (zcs ss) ∧ Kp w w' := by
  have HC : Hid _ := appendSeq_any hB hm hd
  clear hB hm hd
  go_enter Try.func30, Try.ntmps30
  go_wp2_with fail
  refine Calls.mono HC.out ?_
  rintro e w2 ⟨v, ss, rfl, h1, h2, h3⟩
  have HH : Hid (Kys f ss ∧ w2.ownsRow w.heap.size 5 1 v ss.length (zcs ss) ∧ Kp w w2) := ⟨h1, h2, h3⟩
  clear HC h1 h2 h3
  go_wp2_with fail
  go_ret
  exact ⟨v, ss, rfl, HH.out⟩
set_option maxHeartbeats 1000000 in
theorem ins_nil (w : World) : Calls Try.prog 39 #[.slice none 0 0, .int .i64 0, .int .i64 0] w fun e w' => e = .returned (.tuple #[]) ∧ w' = w := by
  go_enter Try.func39, Try.ntmps39
  go_wp2_with fail
  go_loopw [6] (fun v6 wr => v6 = .int .i64 1 ∧ w = wr) (fun _ _ => 0)
  case atStart => exact ⟨rfl, rfl⟩
  case round =>
    obtain ⟨rfl, rfl⟩ := hrel
    go_wp2_with fail
    go_end0
    exact ⟨rfl, rfl⟩
set_option maxHeartbeats 4000000 in
theorem pdq_nil (w : World) : Calls Try.prog 37 #[.slice none 0 0, .int .i64 0, .int .i64 0, .int .i64 0] w fun e w' => e = .returned (.tuple #[]) ∧ w' = w := by
  go_enter Try.func37, Try.ntmps37
  go_wp2_with fail
  go_loopw [1, 2, 3, 8, 9] (fun v1 v2 v3 v8 v9 wr => v1 = .int .i64 0 ∧ v2 = .int .i64 0 ∧ w = wr) (fun _ _ _ _ _ _ => 0)
  case atStart => exact ⟨rfl, rfl, rfl⟩
  case round =>
    obtain ⟨rfl, rfl, rfl⟩ := hrel
    go_wp2_with fail
    refine Calls.mono (ins_nil _) ?_
    rintro e _ ⟨rfl, rfl⟩
    go_wp2_with fail
    first | go_end0 | refine bodyPost_ret (results_none rfl _ _ _) rfl ?_
    exact ⟨rfl, rfl⟩
set_option maxHeartbeats 1000000 in
theorem sort_nil (w : World) : Calls Try.prog 31 #[.slice none 0 0] w fun e w' => e = .returned (.tuple #[]) ∧ w' = w := by
  go_enter Try.func31, Try.ntmps31
  go_wp2_with fail
  refine Calls.mono (len_any (x := 0) (by decide)) ?_
  rintro r _ ⟨rfl, rfl⟩
  rw [show ((blen 0 : Nat) : Int) = 0 from rfl]
  go_wp2_with fail
  refine Calls.mono (pdq_nil _) ?_
  rintro r _ ⟨rfl, rfl⟩
  go_wp2_with fail
  go_end0
  exact ⟨rfl, rfl⟩
/-- The keys, rising. -/
def Srt (f : Int → Option Value) (ss : List Int) : Prop := ss.Pairwise (· < ·) ∧ ∀ x, x ∈ ss ↔ f x ≠ none
/-- A list of bytes that can be read. -/
def Zl (v : Value) (ss : List Int) (w : World) : Prop := (v = .slice none 0 0 ∧ ss = []) ∨ ∃ g cap, v = .slice (some ⟨g, 0, none⟩) ss.length cap ∧ ss.length ≤ cap ∧ cap ≤ maxLen ∧ Rw g ss.toArray w
theorem srt_of {f : Int → Option Value} {ss : List Int} (hk : Kys f ss) {e : Array Int} (hp : PermIn 0 ss.length ss.toArray e) (hs : SortedIn ltZ 0 ss.length e) : Srt f e.toList := by
  have hz : e.size = ss.length := by rw [hp.1]; simp
  have hperm : e.toList.Perm ss := by
    have := hp.2.2
    have e1 : (e.extract 0 ss.length).toList = e.toList := by rw [← hz]; simp
    have e2 : (ss.toArray.extract 0 ss.length).toList = ss := by simp
    rw [e1, e2] at this
    exact this
  refine ⟨?_, fun x => by rw [hperm.mem_iff]; exact hk.2 x⟩
  have hn : e.toList.Nodup := hperm.nodup_iff.2 hk.1
  rw [List.pairwise_iff_getElem]
  intro i j hi hj hij
  simp only [Array.length_toList] at hi hj
  have h1 := hs i j (Nat.zero_le _) hij (by omega)
  have h2 : e.toList[i] ≠ e.toList[j] := fun q => by
    have := (List.pairwise_iff_getElem.1 hn) i j (by simpa using hi) (by simpa using hj) hij
    exact this q
  simp only [ltZ, decide_eq_false_iff_not, getElem!_pos e j (by omega), getElem!_pos e i (by omega)] at h1
  simp only [Array.getElem_toList] at h2 ⊢
  omega
set_option maxHeartbeats 4000000 in
theorem sorted_any {b Bm : Nat} {f : Int → Option Value} {w : World} (hB : Lc 52 Bm [.map (some b)] w) (hm : Mp b f w) (hd : ∀ x, f x ≠ none → 97 ≤ x ∧ x ≤ 122) :
    Calls Try.prog 24 #[.func (.func 32) #[] #[.pointer (some ⟨Bm, 0, none⟩)]] w fun e w' => ∃ (v : Value) (ss : List Int), e = .returned v ∧ Hid (Srt f ss ∧ Zl v ss w' ∧ Kp w w') := by
  have HC : Hid _ := collect_any hB hm hd
  have HD : Hid (∀ x, f x ≠ none → 97 ≤ x ∧ x ≤ 122) := hd
  clear hB hm hd
  go_enter Try.func24, Try.ntmps24
  go_wp2_with fail
  refine Calls.mono HC.out ?_
  rintro e w2 ⟨v, ss, rfl, h1, h2, h3⟩
  have hl : ss.length ≤ 26 := nodup_len 26 97 ss h1.1 fun y hy => by have := HD.out y ((h1.2 y).1 hy); omega
  have HK : Hid (Kp w w2) := h3
  clear HC h3
  rcases h2.2 with ⟨rfl, h0⟩ | ⟨g, cap, cur, rfl, hbase, hg, r1, r2, r3, r4⟩
  · have hss : ss = [] := List.eq_nil_of_length_eq_zero h0
    subst hss
    have HX : Hid (Srt f []) := ⟨List.Pairwise.nil, h1.2⟩
    clear h0 h2 h1
    go_wp2_with fail
    refine Calls.mono (sort_nil _) ?_
    rintro r _ ⟨rfl, rfl⟩
    go_wp2_with fail
    go_ret
    exact ⟨_, [], rfl, HX.out, .inl ⟨rfl, rfl⟩, HK.out⟩
  · have hR : Rw g ss.toArray w2 := by
      refine ⟨cur, hg, by simp; omega, fun i hi => ?_⟩
      simp only [List.size_toArray] at hi
      have : (zcs ss)[i]? = some (.int .u8 ss[i]) := by simp [zcs, hi]
      rw [← r4, List.getElem?_take] at this
      split at this
      · rw [← Array.getElem?_toList, this]
        simp [getElem!_pos, hi]
      · cases this
    obtain ⟨N, hN⟩ : ∃ N, ss.length = N := ⟨_, rfl⟩
    have HS : Hid (Calls Try.prog 31 #[.slice (some ⟨g, 0, none⟩) N cap] w2 fun r w' => r = .returned (.tuple #[]) ∧ Hid (∃ e, PermIn 0 N ss.toArray e ∧ SortedIn ltZ 0 N e ∧ e.size = N ∧ Rw g e w' ∧ Fr (On g) w2 w')) := by
      refine sort_any hR (by simpa using hN) (by omega) ?_
      rw [dis_iff (by simp; omega)]
      have : (ss.toArray.extract 0 N).toList = ss := by rw [← hN]; simp
      rw [this]; exact h1.1
    have HX : Hid (∀ w', (∃ e, PermIn 0 N ss.toArray e ∧ SortedIn ltZ 0 N e ∧ e.size = N ∧ Rw g e w' ∧ Fr (On g) w2 w') → ∃ s' : List Int, Srt f s' ∧ Zl (.slice (some ⟨g, 0, none⟩) N cap) s' w' ∧ Kp w w') := by
      rintro w' ⟨e, p1, p2, p3, p4, p5⟩
      rw [← hN] at p1 p2
      refine ⟨e.toList, srt_of h1 p1 p2, .inr ⟨g, cap, by rw [Array.length_toList, p3], by rw [Array.length_toList]; omega, r2, by simpa using p4⟩, ?_⟩
      exact HK.out.trans (p5.below HK.out.size fun k hk q => by unfold On at q; omega)
    rw [hN]
    clear h2 hg r1 r2 r3 r4 hR h1 hN hl HD
    go_wp2_with fail
    refine Calls.mono HS.out ?_
    rintro r w3 ⟨rfl, H3⟩
    obtain ⟨s', hs'⟩ := HX.out w3 H3.out
    have HY : Hid _ := hs'
    clear HS H3 HX hs'
    go_wp2_with fail
    go_ret
    exact ⟨_, s', rfl, HY.out⟩
end Go.Proofs.Ytmceophmdkcgcaa
/- All marks, by their names; a copy. -/
namespace Go.Proofs.Ytmceophmdkcgcaa
open Go.ChangeShapes Go.WideShapes Go.ChangeAt Go.RowKit Go.Maps Go.MapKept
set_option linter.unusedVariables false
set_option linter.unusedSimpArgs false
theorem infoMark : (Try.prog.info? 33).map (fun i => (i.zero, i.size, i.bytes)) = some (some (.agg #[.int .u8 0, .int .i64 0]), 2, 16) := by kernel_rfl
/-- A mark's cells; those of a list. -/
def mc (p : Int × Int) : List Value := [.int .u8 p.1, .int .i64 p.2]
def mcs (l : List (Int × Int)) : List Value := l.flatMap mc
theorem mcs_snoc (l : List (Int × Int)) (p : Int × Int) : mcs (l ++ [p]) = mcs l ++ mc p := by simp [mcs]
theorem mc_one (p : Int × Int) : ∀ u ∈ mc p, u.oneCell' = true := by
  intro u hu
  simp only [mc, List.mem_cons, List.not_mem_nil, or_false] at hu
  rcases hu with rfl | rfl <;> rfl
theorem mcs_at (l : List (Int × Int)) (i : Nat) {p : Int × Int} (h : l[i]? = some p) : (mcs l)[i * 2]? = some (.int .u8 p.1) ∧ (mcs l)[i * 2 + 1]? = some (.int .i64 p.2) := by
  induction l generalizing i with
  | nil => cases h
  | cons q t ih =>
    cases i with
    | zero => simp at h; subst h; exact ⟨rfl, rfl⟩
    | succ i =>
      have := ih i (by simpa using h)
      have e : mcs (q :: t) = .int .u8 q.1 :: .int .i64 q.2 :: mcs t := rfl
      rw [e, show (i + 1) * 2 = i * 2 + 1 + 1 by omega, show i * 2 + 1 + 1 + 1 = (i * 2 + 1) + 1 + 1 by omega]
      simp only [List.getElem?_cons_succ]
      exact this
theorem mcs_len (l : List (Int × Int)) : (mcs l).length = l.length * 2 := by
  induction l with
  | nil => rfl
  | cons q t ih => have e : mcs (q :: t) = .int .u8 q.1 :: .int .i64 q.2 :: mcs t := rfl; rw [e]; simp only [List.length_cons, ih]; omega
/-- All marks, by their names. -/
def allF (f : Mf) : List (Int × Int) := (List.range 26).filterMap fun (i : Nat) => (f (97 + (i : Int))).map fun c => (97 + (i : Int), c)
theorem eq_rising : ∀ {l₁ l₂ : List Int}, l₁.Pairwise (· < ·) → l₂.Pairwise (· < ·) → (∀ x, x ∈ l₁ ↔ x ∈ l₂) → l₁ = l₂
  | [], [], _, _, _ => rfl
  | [], b :: s, _, _, h => by have := (h b).2 (by simp); simp at this
  | a :: r, [], _, _, h => by have := (h a).1 (by simp); simp at this
  | a :: r, b :: s, h1, h2, h => by
    obtain ⟨p1, q1⟩ := List.pairwise_cons.1 h1
    obtain ⟨p2, q2⟩ := List.pairwise_cons.1 h2
    have hab : a = b := by
      rcases List.mem_cons.1 ((h a).1 (by simp)) with e | e
      · exact e
      · rcases List.mem_cons.1 ((h b).2 (by simp)) with e' | e'
        · exact e'.symm
        · have := p1 b e'; have := p2 a e; omega
    subst hab
    rw [eq_rising q1 q2 fun x => ?_]
    constructor
    · intro hx
      rcases List.mem_cons.1 ((h x).1 (by simp [hx])) with e | e
      · subst e; have := p1 x hx; omega
      · exact e
    · intro hx
      rcases List.mem_cons.1 ((h x).2 (by simp [hx])) with e | e
      · subst e; have := p2 x hx; omega
      · exact e
theorem fm_rising (f : Mf) : ∀ (l : List Nat), l.Pairwise (· < ·) → ((l.filterMap fun (i : Nat) => (f (97 + (i : Int))).map fun c => (97 + (i : Int), c)).map Prod.fst).Pairwise (· < ·)
  | [], _ => by simp
  | i :: r, h => by
    obtain ⟨p, q⟩ := List.pairwise_cons.1 h
    have ih := fm_rising f r q
    cases hf : f (97 + (i : Int)) with
    | none => simp only [List.filterMap_cons, hf, Option.map_none]; exact ih
    | some c =>
      simp only [List.filterMap_cons, hf, Option.map_some, List.map_cons]
      refine List.pairwise_cons.2 ⟨fun x hx => ?_, ih⟩
      obtain ⟨y, hy, rfl⟩ := List.mem_map.1 hx
      obtain ⟨j, hj, hy2⟩ := List.mem_filterMap.1 hy
      cases hfj : f (97 + (j : Int)) with
      | none => rw [hfj] at hy2; cases hy2
      | some c' => rw [hfj] at hy2; cases hy2; have := p j hj; show 97 + (i : Int) < 97 + (j : Int); omega
theorem all_mem (f : Mf) (hd : ∀ x c, f x = some c → 97 ≤ x ∧ x ≤ 122) (x c : Int) : (x, c) ∈ allF f ↔ f x = some c := by
  unfold allF
  rw [List.mem_filterMap]
  constructor
  · rintro ⟨i, _, hi⟩
    cases q : f (97 + (i : Int)) with
    | none => rw [q] at hi; cases hi
    | some c' => rw [q] at hi; cases hi; exact q
  · intro h
    have := hd x c h
    refine ⟨(x - 97).toNat, List.mem_range.2 (by omega), ?_⟩
    rw [show (97 : Int) + ((x - 97).toNat : Int) = x by omega, h]
    rfl
theorem all_srt {f : Mf} (hd : ∀ x c, f x = some c → 97 ≤ x ∧ x ≤ 122) {ss : List Int} (h : Srt (vals f) ss) : ss.map (fun x => (x, (f x).getD 0)) = allF f := by
  have e1 : ss = (allF f).map Prod.fst := by
    refine eq_rising h.1 (fm_rising f _ List.pairwise_lt_range) fun x => ?_
    rw [h.2 x, List.mem_map]
    constructor
    · intro hx
      cases q : f x with
      | none => exact absurd (by unfold vals; rw [q]; rfl) hx
      | some c => exact ⟨(x, c), (all_mem f hd x c).2 q, rfl⟩
    · rintro ⟨⟨y, c⟩, hy, rfl⟩
      have := (all_mem f hd y c).1 hy
      show vals f y ≠ none
      unfold vals; rw [this]; simp
  rw [e1, List.map_map]
  have : ∀ p ∈ allF f, ((fun x => (x, (f x).getD 0)) ∘ Prod.fst) p = p := by
    rintro ⟨y, c⟩ hy
    have := (all_mem f hd y c).1 hy
    simp [this]
  rw [List.map_congr_left this, List.map_id']
theorem all_len (f : Mf) : (allF f).length ≤ 26 := by
  unfold allF
  have := List.length_filterMap_le (fun i : Nat => (f (97 + (i : Int))).map fun c => (97 + (i : Int), c)) (List.range 26)
  simpa using this
section
variable {t b : Nat} {f : Mf} {w w1 : World}
/-- A list of marks that lies in memory. -/
def Mls (w0 : World) (v : Value) (l : List (Int × Int)) (w : World) : Prop := w.ownsRow w0.heap.size 33 2 v l.length (mcs l)
theorem Mls.kp {w0 : World} {v : Value} {l : List (Int × Int)} (h : Mls w0 v l w) (k : Kp w w1) : Mls w0 v l w1 := row_kp h k
theorem Rw.ne_row {g : Nat} {d : Array Int} {B n size : Nat} {e : TypeId} {u : Value} {xs : List Value} (h : Rw g d w) (hr : w.ownsRow B e size u n xs) (hT : e ≠ 5) : u.ownBlock ≠ some g := by
  intro q
  rcases hr.2 with ⟨z, _⟩ | ⟨b, cap, cur, z, hb, hg, _⟩
  · rw [z] at q; cases q
  · rw [z] at q
    simp only [Value.ownBlock, Option.some.injEq] at q
    subst q
    obtain ⟨c, h1, _⟩ := h
    rw [h1] at hg
    injection hg with hg
    injection hg with _ hg
    exact hT hg.symm
set_option maxHeartbeats 8000000 in
set_option maxRecDepth 100000 in
theorem all_any (h : Mk t b f w) : Calls Try.prog 11 #[.pointer (some ⟨t, 0, none⟩)] w fun e w' => ∃ v, e = .returned v ∧ Hid (Mls w v (allF f) w' ∧ Kp w w') := by
  obtain ⟨i9, hi9, z0, z1, z2⟩ := info_parts infoMark
  have c0 := h.box.at (j := 0) rfl
  have HM : Hid (Mk t b f w) := h
  clear h
  go_enter Try.func11, Try.ntmps11
  go_wp2_with fail
  refine Calls.mono (keys_any b w) ?_
  rintro e w2 ⟨rfl, rfl⟩
  have HC : Hid (Calls Try.prog 24 #[.func (.func 32) #[] #[.pointer (some ⟨w.heap.size, 0, none⟩)]] (w.alloc (.cells #[.map (some b)] 52)) fun e w' => ∃ (v : Value) (ss : List Int), e = .returned v ∧ Hid (Srt (vals f) ss ∧ Zl v ss w' ∧ Kp w w')) := by
    refine (sorted_any (Lc.new w [.map (some b)] 52) (HM.out.map.kp (kp_alloc _ _)) fun x hx => ?_).mono ?_
    · cases q : f x with
      | none => exact absurd (by unfold vals; rw [q]; rfl) hx
      | some c => exact HM.out.dom x c q
    · rintro e w' ⟨v, ss, he, HH⟩
      exact ⟨v, ss, he, HH.out.1, HH.out.2.1, kp_trans (kp_alloc _ _) HH.out.2.2⟩
  go_wp2_with fail
  refine Calls.mono HC.out ?_
  rintro e w3 ⟨v, ss, rfl, H3⟩
  clear HC
  have hss := all_srt HM.out.dom H3.out.1
  rcases H3.out.2.1 with ⟨rfl, rfl⟩ | ⟨g, cap, rfl, hc1, hc2, hR⟩
  · have HX : Hid (allF f = [] ∧ Kp w w3) := ⟨hss.symm, H3.out.2.2⟩
    clear hss H3
    go_wp2_with fail
    go_loopw [3, 13] (fun v3 v13 wr => v3 = .slice none 0 0 ∧ v13 = .int .i64 0 ∧ w3 = wr) (fun _ _ _ => 0)
    case atStart => exact ⟨rfl, rfl, rfl⟩
    case round =>
      obtain ⟨rfl, rfl, rfl⟩ := hrel
      go_wp2_with fail
      go_ret
      refine ⟨_, rfl, ?_, HX.out.2⟩
      rw [HX.out.1]
      exact World.ownsRow_nil _ _ _ _
  · obtain ⟨N, hN⟩ : ∃ N, ss.length = N := ⟨_, rfl⟩
    have hN26 : N ≤ 26 := by
      have := all_len f
      rw [← hss, List.length_map] at this; omega
    have HL : Hid (∀ i, i < N → ∃ x c, ss.toArray[i]! = x ∧ f x = some c ∧ 0 ≤ x ∧ x < 256 ∧ (allF f).take (i + 1) = (allF f).take i ++ [(x, c)]) := fun i hi => by
      have hi' : i < ss.length := by omega
      have hmem : ss[i] ∈ ss := List.getElem_mem hi'
      have hv := (H3.out.1.2 _).1 hmem
      cases q : f ss[i] with
      | none => exact absurd (by unfold vals; rw [q]; rfl) hv
      | some c =>
        have hdm := HM.out.dom _ _ q
        refine ⟨ss[i], c, by simp [getElem!_pos, hi'], q, by omega, by omega, ?_⟩
        rw [← hss, List.take_add_one]
        congr 1
        rw [List.getElem?_map, List.getElem?_eq_getElem hi']
        simp [q]
    have HT : Hid ((allF f).take N = allF f ∧ (allF f).length = N) := by
      have : (allF f).length = N := by rw [← hss, List.length_map, hN]
      exact ⟨List.take_of_length_le (by omega), this⟩
    have H0 : Hid (Rw g ss.toArray w3 ∧ Kp w w3) := ⟨hR, H3.out.2.2⟩
    rw [hN]
    clear hss H3 hR hc1
    go_wp2_with fail
    go_loopw [3, 13] (fun v3 v13 wr => ∃ (i : Nat) (a : Option Addr) (c : Nat), i ≤ N ∧ v13 = .int .i64 i ∧ v3 = .slice a i c ∧ Hid (wr.ownsRow w.heap.size 33 2 (.slice a i c) i (mcs ((allF f).take i)) ∧ Rw g ss.toArray wr ∧ Kp w wr)) (fun _ v13 _ => N - (intOf v13).toNat)
    case atStart => exact ⟨0, none, 0, Nat.zero_le _, rfl, rfl, World.ownsRow_nil _ _ _ _, H0.out.1, H0.out.2⟩
    case round =>
      obtain ⟨i, va, vc, hi, rfl, rfl, HI⟩ := hrel
      clear H0
      by_cases q : i < N
      · have d1 : decide ((i : Int) < (N : Int)) = true := decide_eq_true (by omega)
        have d2 : decide (i < N) = true := decide_eq_true (by omega)
        obtain ⟨x, c, hx, hf, x0, x1, htk⟩ := HL.out i q
        have k1 := HI.out.2.1.cell (i := i) (by simp; omega)
        rw [hx] at k1
        have c1 := kp_cell HI.out.2.2 c0
        have hlk := (HM.out.map.kp HI.out.2.2).look x0 x1 Try.underlying52 (zeroI wr) false
        have e1 : (vals f x).getD (.int .i64 0) = .int .i64 c := by unfold vals; rw [hf]; rfl
        rw [e1] at hlk
        simp only [if_false, Bool.false_eq_true] at hlk
        obtain ⟨bt, hbt⟩ : ∃ bt, wr.heap.size = bt := ⟨_, rfl⟩
        obtain ⟨W1, hW1⟩ : ∃ W1, wr.alloc (.cells #[.int .u8 x, .int .i64 c] 33) = W1 := ⟨_, rfl⟩
        have HA : Hid (W1.ownsRow w.heap.size 33 2 (.slice va i vc) i (mcs ((allF f).take i)) ∧ (∀ j u, (mc (x, c))[j]? = some u → W1.cell? ((⟨bt, 0, none⟩ : Addr).add j) = some u) ∧ w.heap.size ≤ W1.heap.size ∧ W1.heap.size = bt + 1 ∧ Rw g ss.toArray W1 ∧ Kp w W1) := by
          have kk := kp_alloc wr (.cells #[.int .u8 x, .int .i64 c] 33)
          rw [hW1] at kk
          refine ⟨row_kp HI.out.1 kk, ?_, Nat.le_trans HI.out.2.2.size kk.size, by rw [← hW1, ← hbt]; exact alloc_size _ _, HI.out.2.1.kp kk, kp_trans HI.out.2.2 kk⟩
          intro j u hj
          rw [← hW1, ← hbt, addr_add, (Lc.new wr [.int .u8 x, .int .i64 c] 33).cell]
          exact hj
        have HTK : Hid ((allF f).take (i + 1) = (allF f).take i ++ [(x, c)]) := htk
        have HE : Hid (∀ g' cap' w2, w2.ownsRow w.heap.size 33 2 (.slice (some ⟨g', 0, none⟩) (i + 1) cap') (i + 1) (mcs ((allF f).take i) ++ mc (x, c)) → W1.grownBy w2 (Value.slice va i vc).ownBlock → w2.ownsRow w.heap.size 33 2 (.slice (some ⟨g', 0, none⟩) (i + 1) cap') (i + 1) (mcs ((allF f).take (i + 1))) ∧ Rw g ss.toArray w2 ∧ Kp w w2) := fun g' cap' w2 r1 r2 => by
          refine ⟨by rw [HTK.out, mcs_snoc]; exact r1, ?_, ?_⟩
          · exact HA.out.2.2.2.2.1.heap (r2.block g HA.out.2.2.2.2.1.lt fun e => HA.out.2.2.2.2.1.ne_row HA.out.1 (by decide) e.symm)
          · have := HA.out.2.2.2.2.2
            exact ⟨r2.os.trans this.os, r2.tape.trans this.tape, r2.output.trans this.output, Nat.le_trans this.size r2.size, fun k hk => (r2.block k (Nat.lt_of_lt_of_le hk this.size) fun e => by have := (HA.out.1.lt k e.symm).1; omega).trans (this.block k hk)⟩
        clear HI htk hx hf e1 HM HL HT x0 x1
        go_wp2_with (at_builtin; refine wpList_append_lies _ rfl (.tmp 17) (.tmp 26) 29 rfl w.heap.size 33 i9 _ 2 16 Try.underlying29 hi9 z0 z1 z2 rfl (by decide) (.slice va i vc) i (mcs ((allF f).take i)) rfl HA.out.1 ⟨bt, 0, none⟩ 1 1 (mc (x, c)) rfl rfl HA.out.2.1 (mc_one _) (by omega) (by unfold maxLen; omega) (by omega) HA.out.2.2.1 (bt + 1) HA.out.2.2.2.1 ?_; intro g' cap' w2 r1' r2' r3' r4'; have HI2 : Hid _ := HE.out g' cap' w2 r1' r2'; clear r1' r2' r3' r4')
        clear HA HE hW1 hbt hlk k1
        go_roundw
        case rel => exact ⟨i + 1, some ⟨g', 0, none⟩, cap', by omega, by go_num, rfl, HI2.out⟩
        case measure => simp only [intOf]; omega
      · obtain rfl : i = N := by omega
        have d1 : decide ((i : Int) < (i : Int)) = false := by simp
        have HX : Hid (Mls w (.slice va i vc) (allF f) wr ∧ Kp w wr) := by
          have := HI.out.1
          rw [HT.out.1] at this
          exact ⟨by unfold Mls; rw [HT.out.2]; exact this, HI.out.2.2⟩
        clear HI HT HL HM q
        go_wp2_with fail
        go_ret
        exact ⟨_, rfl, HX.out⟩
end
end Go.Proofs.Ytmceophmdkcgcaa
/- A copy; are two lists of marks the same? -/
namespace Go.Proofs.Ytmceophmdkcgcaa
open Go.ChangeShapes Go.WideShapes Go.ChangeAt Go.RowKit Go.Maps Go.MapKept
set_option linter.unusedVariables false
set_option linter.unusedSimpArgs false
/-- A number that fits. -/
def Rg (x : Int) : Prop := -9223372036854775808 ≤ x ∧ x ≤ 9223372036854775807
theorem wf_int {x : Int} (h : Rg x) : (Lit.int .i64 x).wf = true := by
  show (decide (IntKind.i64.min ≤ x) && decide (x ≤ IntKind.i64.max)) = true
  have e1 : IntKind.i64.min = -9223372036854775808 := by decide
  have e2 : IntKind.i64.max = 9223372036854775807 := by decide
  rw [e1, e2, Bool.and_eq_true, decide_eq_true_eq, decide_eq_true_eq]
  exact h
theorem wf_byte {x : Int} (h0 : 0 ≤ x) (h1 : x < 256) : (Lit.int .u8 x).wf = true := by
  show (decide (IntKind.u8.min ≤ x) && decide (x ≤ IntKind.u8.max)) = true
  have e1 : IntKind.u8.min = 0 := by decide
  have e2 : IntKind.u8.max = 255 := by decide
  rw [e1, e2, Bool.and_eq_true, decide_eq_true_eq, decide_eq_true_eq]
  omega
theorem kl_int {x : Int} (h : Rg x) (d : Nat) : Try.prog.keyLits (d + 1) 3 [.int .i64 x] = some [.int .i64 x] := by
  simp only [Program.keyLits, Try.underlying3]
  rw [if_pos ⟨trivial, wf_int h⟩]
theorem kl_byte {x : Int} (h0 : 0 ≤ x) (h1 : x < 256) (d : Nat) : Try.prog.keyLits (d + 1) 5 [.int .u8 x] = some [.int .u8 x] := by
  simp only [Program.keyLits, Try.underlying5]
  rw [if_pos ⟨trivial, wf_byte h0 h1⟩]
theorem cellsInt : Try.prog.cellsOf 3 = 1 := by kernel_rfl
theorem cellsUB : Try.prog.cellsOf 5 = 1 := by kernel_rfl
theorem cellsMark : Try.prog.cellsOf 33 = 2 := by kernel_rfl
theorem keyMark : Try.prog.keyTypeAt 5 33 = true := by kernel_rfl
theorem kl_mark {x c : Int} (h0 : 0 ≤ x) (h1 : x < 256) (h : Rg c) : Try.prog.keyLits 10 33 [.int .u8 x, .int .i64 c] = some [.int .u8 x, .int .i64 c] := by
  rw [show (10 : Nat) = 9 + 1 from rfl]
  unfold Program.keyLits
  rw [Try.underlying33]
  simp only
  rw [if_pos ⟨by rw [cellsMark]; rfl, by kernel_rfl⟩]
  simp only [List.mapM_cons, List.mapM_nil, cellsInt, cellsUB, List.drop_zero, List.drop_succ_cons, List.take_succ_cons, List.take_zero]
  rw [kl_byte h0 h1 8, kl_int h 8]
  rfl
theorem eq_mark {x c : Int} (h0 : 0 ≤ x) (h1 : x < 256) (h : Rg c) (w : World) : (Op.equalIn 10000 33 (.agg #[.int .u8 x, .int .i64 c]) (.agg #[.int .u8 x, .int .i64 c])).run Try.prog w = .ok true w := by
  have hk : Try.prog.keyLits 10 33 (Value.agg #[.int .u8 x, .int .i64 c]).cells.toList = some [.int .u8 x, .int .i64 c] := kl_mark h0 h1 h
  obtain ⟨r, q1, q2⟩ := run_equalIn_deep (P := Try.prog) 9995 5 33 keyMark w 10 10 _ _ _ _ (by kernel_rfl) (by kernel_rfl) hk hk
  rw [q1, q2.2 rfl]
/-- A list of marks that can be read. -/
def Rdm (v : Value) (l : List (Int × Int)) (w : World) : Prop := ∃ a cap, v = .slice a l.length cap ∧ l.length ≤ cap ∧ cap ≤ maxLen ∧ ∀ i x c, l[i]? = some (x, c) → ∃ g, a = some ⟨g, 0, none⟩ ∧ w.cell? ⟨g, i * 2, none⟩ = some (.int .u8 x) ∧ w.cell? ⟨g, i * 2 + 1, none⟩ = some (.int .i64 c)
theorem Mls.rdm {w0 w : World} {v : Value} {l : List (Int × Int)} (h : Mls w0 v l w) : Rdm v l w := by
  unfold Mls at h
  obtain ⟨a, cap, rfl, h1, h2⟩ := owns_form h
  refine ⟨a, cap, rfl, h1, h2, fun i x c hi => ?_⟩
  have hl : i < l.length := (List.getElem?_eq_some_iff.1 hi).1
  obtain ⟨q1, q2⟩ := mcs_at l i hi
  rcases h.2 with ⟨e, h0⟩ | ⟨g, cp, cur, e, hb, hg, r1, r2, r3, r4⟩
  · omega
  · injection e with e1 e2 e3
    subst e1
    refine ⟨g, rfl, ?_, ?_⟩
    · rw [cell_at hg, ← Array.getElem?_toList]
      rw [← r4, List.getElem?_take] at q1
      split at q1
      · exact q1
      · cases q1
    · rw [cell_at hg, ← Array.getElem?_toList]
      rw [← r4, List.getElem?_take] at q2
      split at q2
      · exact q2
      · cases q2
theorem Rdm.kp {w w1 : World} {v : Value} {l : List (Int × Int)} (h : Rdm v l w) (k : Kp w w1) : Rdm v l w1 := by
  obtain ⟨a, cap, rfl, h1, h2, h3⟩ := h
  refine ⟨a, cap, rfl, h1, h2, fun i x c hi => ?_⟩
  obtain ⟨g, e, q1, q2⟩ := h3 i x c hi
  exact ⟨g, e, kp_cell k q1, kp_cell k q2⟩
/-- What a list of marks may hold. -/
def Fine (l : List (Int × Int)) : Prop := ∀ p ∈ l, 0 ≤ p.1 ∧ p.1 < 256 ∧ Rg p.2
theorem all_fine {f : Mf} {M : Int} (hd : ∀ x c, f x = some c → 97 ≤ x ∧ x ≤ 122) (hB : Bd M f) (hM : M ≤ 1099511627776) : Fine (allF f) := by
  rintro ⟨x, c⟩ hp
  have h1 := (all_mem f hd x c).1 hp
  have h2 := hd x c h1
  have h3 := hB x c h1
  exact ⟨by show 0 ≤ x; omega, by show x < 256; omega, by show Rg c; unfold Rg; omega⟩
section
variable {t b : Nat} {f : Mf} {w w1 : World}
set_option maxHeartbeats 2000000 in
theorem clone_any {m : Int → Option Value} (h : Mp b m w) : Calls Try.prog 29 #[.map (some b)] w fun e w' => ∃ b', e = .returned (.map (some b')) ∧ Mp b' m w' ∧ Kp w w' ∧ w.heap.size ≤ b' := by
  obtain ⟨es, clock, hb, S, H⟩ := h
  have hq := fun w => run_eql_map_nil_sl (P := Try.prog) w 52 _ _ (some b) Try.underlying52
  go_enter Try.func29, Try.ntmps29
  go_wp2
  rw [run_callFunc_extern Try.func35 (by kernel_rfl) (by kernel_rfl) (by kernel_rfl) (e := Extern.MapsClone.clone) (by kernel_rfl), run_maps_clone_sl w 52 hb]
  simp only [Result.andThen]
  rw [Oper.upon_value]
  go_wp2
  rw [run_typeAssert_map_sl _ 52 20 _ _ _ Try.underlying52]
  simp only [Result.andThen]
  rw [Oper.upon_value]
  go_wp2
  go_ret
  exact ⟨w.heap.size, rfl, ⟨es, clock, alloc_new _ _, S, H⟩, kp_alloc _ _, Nat.le_refl _⟩
set_option maxHeartbeats 2000000 in
theorem copy_any (h : Mk t b f w) : Calls Try.prog 19 #[.pointer (some ⟨t, 0, none⟩)] w fun e w' => ∃ t' b', e = .returned (.pointer (some ⟨t', 0, none⟩)) ∧ Mk t' b' f w' ∧ Kp w w' ∧ w.heap.size ≤ t' ∧ w.heap.size ≤ b' := by
  have c0 := h.box.at (j := 0) rfl
  have HM : Hid (Mk t b f w) := h
  clear h
  go_enter Try.func19, Try.ntmps19
  go_wp2_with fail
  refine Calls.mono (clone_any HM.out.map) ?_
  rintro e w2 ⟨b', rfl, h2, k2, hb'⟩
  have HX : Hid (Mk w2.heap.size b' f (w2.alloc (.cells #[.map (some b')] 54)) ∧ Kp w (w2.alloc (.cells #[.map (some b')] 54)) ∧ w.heap.size ≤ w2.heap.size ∧ w.heap.size ≤ b') :=
    ⟨⟨Lc.new w2 [.map (some b')] 54, h2.kp (kp_alloc _ _), HM.out.dom⟩, kp_more k2 _, k2.size, hb'⟩
  clear h2 k2 hb' HM
  go_wp2_with fail
  go_ret
  exact ⟨_, b', rfl, HX.out⟩
set_option maxHeartbeats 4000000 in
set_option maxRecDepth 100000 in
theorem jsame_any {l : List (Int × Int)} (hf : Fine l) {v v' : Value} (h : Rdm v l w) (h' : Rdm v' l w) : Calls Try.prog 21 #[v, v'] w fun e w' => e = .returned (.bool true) ∧ Kp w w' := by
  obtain ⟨a, cap, rfl, k1, k2, k3⟩ := h
  obtain ⟨a', cap', rfl, k1', k2', k3'⟩ := h'
  obtain ⟨N, hN⟩ : ∃ N, l.length = N := ⟨_, rfl⟩
  have HC : Hid (∀ i, i < N → ∃ x c g g', 0 ≤ x ∧ x < 256 ∧ Rg c ∧ a = some ⟨g, 0, none⟩ ∧ w.cell? ⟨g, i * 2, none⟩ = some (.int .u8 x) ∧ w.cell? ⟨g, i * 2 + 1, none⟩ = some (.int .i64 c) ∧ a' = some ⟨g', 0, none⟩ ∧ w.cell? ⟨g', i * 2, none⟩ = some (.int .u8 x) ∧ w.cell? ⟨g', i * 2 + 1, none⟩ = some (.int .i64 c)) := fun i hi => by
    have hi' : i < l.length := by omega
    obtain ⟨p, hp⟩ : ∃ p, l[i] = p := ⟨_, rfl⟩
    obtain ⟨x, c⟩ := p
    have hg : l[i]? = some (x, c) := by rw [List.getElem?_eq_getElem hi', hp]
    have hfi := hf (x, c) (by rw [← hp]; exact List.getElem_mem hi')
    obtain ⟨g, e1, e2, e3⟩ := k3 i x c hg
    obtain ⟨g', e1', e2', e3'⟩ := k3' i x c hg
    exact ⟨x, c, g, g', hfi.1, hfi.2.1, hfi.2.2, e1, e2, e3, e1', e2', e3'⟩
  rw [hN] at k1 k1' ⊢
  unfold maxLen at k2 k2'
  clear k3 k3' hN hf
  go_enter Try.func21, Try.ntmps21
  go_wp2_with fail
  go_loopw [5] (fun v5 wr => ∃ i : Nat, i ≤ N ∧ v5 = .int .i64 i ∧ Hid (Kp w wr)) (fun v5 _ => N - (intOf v5).toNat)
  case atStart => exact ⟨0, Nat.zero_le _, rfl, Below.refl _ _⟩
  case round =>
    obtain ⟨i, hi, rfl, HK⟩ := hrel
    by_cases q : i < N
    · have d1 : decide ((i : Int) < (N : Int)) = true := decide_eq_true (by omega)
      have d2 : decide (i < N) = true := decide_eq_true (by omega)
      obtain ⟨x, c, g, g', x0, x1, hc, rfl, e2, e3, rfl, e2', e3'⟩ := HC.out i q
      replace e2 := kp_cell HK.out e2
      replace e3 := kp_cell HK.out e3
      replace e2' := kp_cell HK.out e2'
      replace e3' := kp_cell HK.out e3'
      have heq := fun w => eq_mark x0 x1 hc w
      clear HC hc x0 x1
      go_wp2_with fail
      go_quiet (fail)
      have HK2 : Hid (Kp w (wr.drewN nq)) := kp_trans HK.out (kp_drewN _ _)
      clear heq e2 e3 e2' e3' HK
      go_wp2_with fail
      go_roundw
      case rel => exact ⟨i + 1, by omega, by go_num, HK2.out⟩
      case measure => simp only [intOf]; omega
    · obtain rfl : i = N := by omega
      have d1 : decide ((i : Int) < (i : Int)) = false := by simp
      clear HC
      go_wp2_with fail
      go_ret
      exact ⟨rfl, HK.out⟩
end
end Go.Proofs.Ytmceophmdkcgcaa
/- Calls and bytes that are handed in. -/
namespace Go.Proofs.Ytmceophmdkcgcaa
open Go.ChangeShapes Go.WideShapes Go.ChangeAt Go.RowKit
set_option linter.unusedVariables false
set_option linter.unusedSimpArgs false
set_option maxRecDepth 100000
/-- A call that is handed in. -/
structure Op5 where
  kd : Nat
  nm : Nat
  a : Int
  b : Int
  c : Int
def Op5.cells (o : Op5) : List Value := [.int .u8 o.kd, .int .u8 o.nm, .int .i64 o.a, .int .i64 o.b, .int .i64 o.c]
structure Op5.ok (o : Op5) : Prop where
  kd : o.kd < 256
  nm : o.nm < 256
/-- Calls in a row that can be read. -/
def Opl (v : Value) (l : List Op5) (w : World) : Prop := ∃ a cap, v = .slice a l.length cap ∧ l.length ≤ cap ∧ cap ≤ maxLen ∧ ∀ i t, l[i]? = some t → ∃ B o, a = some ⟨B, o, none⟩ ∧ B < w.heap.size ∧ ∀ j, j < 5 → w.cell? ⟨B, o + i * 5 + j, none⟩ = t.cells[j]?
theorem Opl.kp {v : Value} {l : List Op5} {w w1 : World} (h : Opl v l w) (k : Kp w w1) : Opl v l w1 := by
  obtain ⟨a, cap, rfl, h1, h2, h3⟩ := h
  refine ⟨a, cap, rfl, h1, h2, fun i t hi => ?_⟩
  obtain ⟨B, o, e, hB, hc⟩ := h3 i t hi
  refine ⟨B, o, e, Nat.lt_of_lt_of_le hB k.size, fun j hj => ?_⟩
  rw [← hc j hj]
  simp only [World.cell?, k.block B hB]
/-- Bytes in a row that can be read. -/
def Byl (v : Value) (l : List Nat) (w : World) : Prop := ∃ a cap, v = .slice a l.length cap ∧ l.length ≤ cap ∧ cap ≤ maxLen ∧ ∀ (i x : Nat), l[i]? = some x → x < 256 ∧ ∃ B o, a = some ⟨B, o, none⟩ ∧ w.cell? ⟨B, o + i, none⟩ = some (.int .u8 x)
theorem Byl.kp {v : Value} {l : List Nat} {w w1 : World} (h : Byl v l w) (k : Kp w w1) : Byl v l w1 := by
  obtain ⟨a, cap, rfl, h1, h2, h3⟩ := h
  refine ⟨a, cap, rfl, h1, h2, fun i x hi => ?_⟩
  obtain ⟨hx, B, o, e, hc⟩ := h3 i x hi
  exact ⟨hx, B, o, e, kp_cell k hc⟩
theorem fU8 {a : Int} (w : (Lit.int .u8 a).wf = true) : 0 ≤ a ∧ a < 256 := by
  have h : (decide (IntKind.u8.min ≤ a) && decide (a ≤ IntKind.u8.max)) = true := w
  rw [Bool.and_eq_true, decide_eq_true_eq, decide_eq_true_eq] at h
  have e1 : IntKind.u8.min = 0 := by decide
  have e2 : IntKind.u8.max = 255 := by decide
  omega
theorem underOp : (Try.prog.underlying 42).map (fun | .struct fs => fs.toList.map (fun f => (f.type, f.offset)) | _ => []) = some [(5, 0), (5, 1), (3, 2), (3, 3), (3, 4)] := by kernel_rfl
theorem cOp : Try.prog.cellsOf 42 = 5 := by kernel_rfl
theorem op_fields {H : Type} {enc : TypeId × Value → H} {W : World} {fuel : Nat} {cs : List Value} {x : DataW H × List MemPlace} (h : DataW.trod enc Try.prog W 0 (fun _ => true) true fuel 42 cs = some x) :
    ∃ t : Op5, cs = t.cells ∧ t.ok := by
  have hu := underOp
  rw [Option.map_eq_some_iff] at hu
  obtain ⟨ty, hty, hfs⟩ := hu
  match ty, hty, hfs with
  | .struct fs, hty, hfs =>
    simp only at hfs
    obtain ⟨xs, n, _, rfl, hcl, hxl, hf⟩ := DataW.trod_struct hty h
    rw [cOp] at hcl
    match cs, hcl with
    | [k0, k1, k2, k3, k4], _ =>
      obtain ⟨fl⟩ := fs
      match fl, hfs with
      | [f0, f1, f2, f3, f4], hfs =>
        simp only [List.map_cons, List.map_nil, List.cons.injEq, Prod.mk.injEq, and_true] at hfs
        obtain ⟨⟨t0, o0⟩, ⟨t1, o1⟩, ⟨t2, o2⟩, ⟨t3, o3⟩, ⟨t4, o4⟩⟩ := hfs
        match xs, hxl with
        | [y0, y1, y2, y3, y4], _ =>
          have g0 := hf 0 f0 rfl
          have g1 := hf 1 f1 rfl
          have g2 := hf 2 f2 rfl
          have g3 := hf 3 f3 rfl
          have g4 := hf 4 f4 rfl
          rw [t0, o0, cellsUB] at g0
          rw [t1, o1, cellsUB] at g1
          rw [t2, o2, cellsInt] at g2
          rw [t3, o3, cellsInt] at g3
          rw [t4, o4, cellsInt] at g4
          obtain ⟨a0, e0, r0, w0⟩ := DataW.trod_int Try.underlying5 g0
          obtain ⟨a1, e1, r1, w1⟩ := DataW.trod_int Try.underlying5 g1
          obtain ⟨a2, e2, r2, w2⟩ := DataW.trod_int Try.underlying3 g2
          obtain ⟨a3, e3, r3, w3⟩ := DataW.trod_int Try.underlying3 g3
          obtain ⟨a4, e4, r4, w4⟩ := DataW.trod_int Try.underlying3 g4
          simp at e0 e1 e2 e3 e4
          have u0 := fU8 w0
          have u1 := fU8 w1
          refine ⟨⟨a0.toNat, a1.toNat, a2, a3, a4⟩, ?_, ⟨by show a0.toNat < 256; omega, by show a1.toNat < 256; omega⟩⟩
          simp only [Op5.cells, Int.toNat_of_nonneg u0.1, Int.toNat_of_nonneg u1.1]
          rw [e0, e1, e2, e3, e4]
theorem ops_form {H : Type} {enc : TypeId × Value → H} {W : World} {base : Nat} {v : Value} {d : DataW H} {p : List MemPlace} (hval : Value.okWide Try.prog W .any base 38 v) (h : DataW.Trod enc Try.prog W 0 (fun _ => true) true 38 v d p) :
    ∃ l : List Op5, Opl v l W ∧ ∀ t ∈ l, t.ok := by
  obtain ⟨a0, len0, cap0, rfl⟩ := okWide_slice Try.underlying38 hval
  obtain ⟨fuel, hf⟩ := h
  rcases Deep.open_slice Try.underlying38 hf with ⟨hcs, hx⟩ | ⟨a, len, cap, m, n, D, Pl, hcs, _, hl, hm, hmm, hx, hcell⟩
  · simp [Value.cells] at hcs
    obtain ⟨rfl, rfl, rfl⟩ := hcs
    exact ⟨[], ⟨none, 0, rfl, by simp, by simp [maxLen], fun i t hi => by cases hi⟩, (fun t ht => by cases ht)⟩
  · simp [Value.cells] at hcs
    obtain ⟨rfl, rfl, rfl⟩ := hcs
    simp only [if_true] at hmm
    subst hmm
    rw [cOp] at hcell
    have each : ∀ i, i < m → ∃ t : Op5, (∀ j, j < 5 → W.cell? ((a.add (i * 5)).add j) = t.cells[j]?) ∧ t.ok := fun i hi => by
      obtain ⟨cs', h1, h2⟩ := hcell i hi
      obtain ⟨t, e, r1⟩ := op_fields h2
      obtain ⟨_, hlen, hc⟩ := World.cells?_some h1
      refine ⟨t, fun j hj => ?_, r1⟩
      rw [hc j hj, e]
    haveI : Inhabited Op5 := ⟨⟨0, 0, 0, 0, 0⟩⟩
    obtain ⟨F, hF⟩ := Deep.choose_lt each
    have hspot : 0 < m → a.spot = none := fun h0 => by
      have := (hF 0 h0).1 0 (by omega)
      have e : (F 0).cells[0]? = some (.int .u8 (F 0).kd) := rfl
      rw [e] at this
      simpa [Addr.add] using World.cell?_spot this
    refine ⟨(List.range len0).map F, ⟨some a, m, by simp, by simpa using hl, hm, fun i t hi => ?_⟩, fun t ht => ?_⟩
    · simp only [List.getElem?_map, Option.map_eq_some_iff] at hi
      obtain ⟨k, hk, rfl⟩ := hi
      obtain ⟨hlt, hk⟩ := List.getElem?_eq_some_iff.1 hk
      simp at hk hlt
      subst hk
      obtain ⟨b, off, spot⟩ := a
      have hs : spot = none := hspot (by omega)
      subst hs
      have hc : ∀ j, j < 5 → W.cell? ⟨b, off + i * 5 + j, none⟩ = (F i).cells[j]? := fun j hj => by
        have := (hF i (by omega)).1 j hj
        rw [Addr.add_lit, Addr.add_lit] at this
        exact this
      exact ⟨b, off, rfl, World.block_lt_of_cell? _ _ (hc 0 (by omega)), hc⟩
    · obtain ⟨k, hk, rfl⟩ := List.mem_map.1 ht
      rw [List.mem_range] at hk
      exact (hF k (by omega)).2
theorem op_form {H : Type} {enc : TypeId × Value → H} {W : World} {base : Nat} {v : Value} {d : DataW H} {p : List MemPlace} (hval : Value.okWide Try.prog W .any base 42 v) (h : DataW.Trod enc Try.prog W 0 (fun _ => true) true 42 v d p) :
    ∃ o : Op5, v = .agg o.cells.toArray ∧ o.ok := by
  have hu := underOp
  rw [Option.map_eq_some_iff] at hu
  obtain ⟨ty, hty, hfs⟩ := hu
  match ty, hty, hfs with
  | .struct fs, hty, hfs =>
    obtain ⟨cs, rfl, hsz⟩ := okWide_struct hty hval
    obtain ⟨fuel, hf0⟩ := h
    obtain ⟨t, e, r⟩ := op_fields hf0
    refine ⟨t, ?_, r⟩
    have e' : cs.toList = t.cells := e
    rw [← e']
theorem bytes_form {H : Type} {enc : TypeId × Value → H} {W : World} {base : Nat} {v : Value} {d : DataW H} {p : List MemPlace} (hval : Value.okWide Try.prog W .any base 22 v) (h : DataW.Trod enc Try.prog W 0 (fun _ => true) true 22 v d p) :
    ∃ l : List Nat, Byl v l W := by
  obtain ⟨a0, len0, cap0, rfl⟩ := okWide_slice Try.underlying22 hval
  obtain ⟨fuel, hf⟩ := h
  rcases Deep.open_slice Try.underlying22 hf with ⟨hcs, hx⟩ | ⟨a, len, cap, m, n, D, Pl, hcs, _, hl, hm, hmm, hx, hcell⟩
  · simp [Value.cells] at hcs
    obtain ⟨rfl, rfl, rfl⟩ := hcs
    exact ⟨[], none, 0, rfl, by simp, by simp [maxLen], fun i t hi => by cases hi⟩
  · simp [Value.cells] at hcs
    obtain ⟨rfl, rfl, rfl⟩ := hcs
    simp only [if_true] at hmm
    subst hmm
    rw [cellsUB] at hcell
    have each : ∀ i, i < m → ∃ x : Nat, W.cell? (a.add (i * 1)) = some (.int .u8 x) ∧ x < 256 := fun i hi => by
      obtain ⟨cs', h1, h2⟩ := hcell i hi
      obtain ⟨y, e, _, wy⟩ := DataW.trod_int Try.underlying5 h2
      obtain ⟨_, hlen, hc⟩ := World.cells?_some h1
      have u := fU8 wy
      refine ⟨y.toNat, ?_, by omega⟩
      have := hc 0 (by omega)
      rw [e] at this
      rw [Int.toNat_of_nonneg u.1]
      simpa [Addr.add] using this
    obtain ⟨F, hF⟩ := Deep.choose_lt each
    have hspot : 0 < m → a.spot = none := fun h0 => by
      have := (hF 0 h0).1
      simpa [Addr.add] using World.cell?_spot this
    refine ⟨(List.range len0).map F, some a, m, by simp, by simpa using hl, hm, fun i x hi => ?_⟩
    simp only [List.getElem?_map, Option.map_eq_some_iff] at hi
    obtain ⟨k, hk, rfl⟩ := hi
    obtain ⟨hlt, hk⟩ := List.getElem?_eq_some_iff.1 hk
    simp at hk hlt
    subst hk
    obtain ⟨b, off, spot⟩ := a
    have hs : spot = none := hspot (by omega)
    subst hs
    have hc := (hF i (by omega)).1
    rw [Addr.add_lit, Nat.mul_one] at hc
    exact ⟨(hF i (by omega)).2, b, off, rfl, hc⟩
end Go.Proofs.Ytmceophmdkcgcaa
/- MarksTurn: the walk. -/
namespace Go.Proofs.Ytmceophmdkcgcaa
open Go.ChangeShapes Go.WideShapes Go.ChangeAt Go.RowKit Go.Maps Go.MapKept
set_option linter.unusedVariables false
set_option linter.unusedSimpArgs false
/-- Lines that are moved, and moved back, are where they were. -/
theorem turn_up (f : Mf) {a z d n : Int} (ha : 1 ≤ a) (haz : a ≤ z) (hz : z ≤ 2147483647) (hd : 0 ≤ d) (h : d < a - 1) (hn : n = z - a + 1) : mvF (mvF f a z d) (d + 1) (d + n) z = f := by
  have e1 : mvF f a z d = fun x => (f x).bind (exc (d + 1) (a - 1) z) := by unfold mvF; rw [if_neg (by omega), if_neg (by omega), if_pos h]
  rw [e1]
  unfold mvF
  rw [if_neg (by omega), if_pos (by omega)]
  funext x
  show ((f x).bind _).bind _ = f x
  cases f x with
  | none => rfl
  | some c =>
    simp only [Option.bind_some, exc]
    split
    · simp only [Option.bind_some, exc]; rw [if_pos (by omega)]
    · split
      · simp only [Option.bind_some, exc]; rw [if_neg (by omega), if_neg (by omega)]; congr 1; omega
      · simp only [Option.bind_some, exc]; rw [if_neg (by omega), if_pos (by omega)]; congr 1; omega
theorem turn_down (f : Mf) {a z d n : Int} (ha : 1 ≤ a) (haz : a ≤ z) (hd : d ≤ 2147483647) (h : z < d) (hn : n = z - a + 1) : mvF (mvF f a z d) (d - n + 1) d (a - 1) = f := by
  have e1 : mvF f a z d = fun x => (f x).bind (exc a z d) := by unfold mvF; rw [if_neg (by omega), if_pos (by omega)]
  rw [e1]
  unfold mvF
  rw [if_neg (by omega), if_neg (by omega), if_pos (by omega)]
  funext x
  show ((f x).bind _).bind _ = f x
  cases f x with
  | none => rfl
  | some c =>
    simp only [Option.bind_some, exc]
    split
    · simp only [Option.bind_some, exc]; rw [if_pos (by omega)]
    · split
      · simp only [Option.bind_some, exc]; rw [if_neg (by omega), if_neg (by omega)]; congr 1; omega
      · simp only [Option.bind_some, exc]; rw [if_neg (by omega), if_pos (by omega)]; congr 1; omega
theorem Rdm.frm {w w1 : World} {v : Value} {l : List (Int × Int)} {b : Nat} {m : Int → Option Value} (h : Rdm v l w) (hm : Mp b m w) (f : Fr (On b) w w1) : Rdm v l w1 := by
  obtain ⟨a, cap, rfl, h1, h2, h3⟩ := h
  refine ⟨a, cap, rfl, h1, h2, fun i x c hi => ?_⟩
  obtain ⟨g, e, q1, q2⟩ := h3 i x c hi
  have hg : g < w.heap.size ∧ g ≠ b := by
    constructor
    · rcases Nat.lt_or_ge g w.heap.size with q | q
      · exact q
      · simp [World.cell?, Array.getElem?_eq_none q] at q1
    · rintro rfl
      obtain ⟨es, cl, hb, _⟩ := hm
      simp [World.cell?, hb] at q1
  have hb := f.block g hg.1 hg.2
  exact ⟨g, e, by rw [World.cell?_of_block hb]; exact q1, by rw [World.cell?_of_block hb]; exact q2⟩
set_option maxHeartbeats 16000000 in
set_option maxRecDepth 100000 in
theorem turn_walk {v : Value} {l : List Nat} {w : World} (h : Byl v l w) (p : Nat) (hp : p < 256) (q : Nat) (hq : q < 256) (r : Nat) (hr : r < 256) : Calls Try.prog 3 #[v, .int .u8 p, .int .u8 q, .int .u8 r] w fun e w' => e = .returned (.bool true) ∧ Kp w w' := by
  obtain ⟨va, cap, rfl, k1, k2, k3⟩ := h
  obtain ⟨N, hN⟩ : ∃ N, l.length = N := ⟨_, rfl⟩
  have HC : Hid (∀ i, i < N → ∃ x B o, x < 256 ∧ va = some ⟨B, o, none⟩ ∧ w.cell? ⟨B, o + i, none⟩ = some (.int .u8 (x : Nat))) := fun i hi => by
    have hi' : i < l.length := by omega
    obtain ⟨hx, B, o, e1, e2⟩ := k3 i l[i] (List.getElem?_eq_getElem hi')
    exact ⟨l[i], B, o, hx, e1, e2⟩
  rw [hN] at k1 ⊢
  unfold maxLen at k2
  clear k3 hN
  by_cases h26 : 26 < N
  · have d1 : decide ((N : Int) > 26) = true := decide_eq_true (by omega)
    have d2 : decide ((26 : Int) < (N : Int)) = true := decide_eq_true (by omega)
    have d3 : decide (26 < N) = true := decide_eq_true (by omega)
    clear HC h26
    go_enter Try.func3, Try.ntmps3
    go_wp2_with fail
    refine Calls.mono (kknown_any w) ?_
    rintro e w2 ⟨rfl, kk⟩
    have HK : Hid (Kp w w2) := kk
    clear kk
    go_wp2_with fail
    go_ret
    exact ⟨rfl, HK.out⟩
  · have d1 : decide ((N : Int) > 26) = false := decide_eq_false (by omega)
    have d2 : decide ((26 : Int) < (N : Int)) = false := decide_eq_false (by omega)
    have d3 : decide (26 < N) = false := decide_eq_false (by omega)
    have h26' : N ≤ 26 := by omega
    clear h26
    go_enter Try.func3, Try.ntmps3
    go_wp2_with fail
    refine Calls.mono (kknown_any w) ?_
    rintro e w2 ⟨rfl, kk⟩
    have HK : Hid (Kp w w2) := kk
    clear kk
    go_wp2_with fail
    refine Calls.mono (new_any w2) ?_
    rintro e w3 ⟨t, b, rfl, h3, k3, ht, hb⟩
    have H3 : Hid (Mk t b (fun _ => none) w3 ∧ Kp w w3 ∧ w.heap.size ≤ b ∧ w.heap.size ≤ t) := ⟨h3, kp_trans HK.out k3, by have := HK.out.size; omega, by have := HK.out.size; omega⟩
    clear h3 k3 ht hb HK
    go_wp2_with fail
    go_loopw [10] (fun v10 wr => ∃ (i : Nat) (f : Mf), i ≤ N ∧ v10 = .int .i64 i ∧ Hid (Mk t b f wr ∧ Bd 2147483647 f ∧ Kp w wr)) (fun v10 _ => N - (intOf v10).toNat)
    case atStart => exact ⟨0, _, Nat.zero_le _, rfl, H3.out.1, bd_none _, H3.out.2.1⟩
    case round =>
      obtain ⟨i, f, hi, rfl, HI⟩ := hrel
      by_cases hlt : i < N
      · have g1 : decide ((i : Int) < (N : Int)) = true := decide_eq_true (by omega)
        have g2 : decide (i < N) = true := decide_eq_true (by omega)
        obtain ⟨x, B, o, hx, rfl, e2⟩ := HC.out i hlt
        replace e2 := kp_cell HI.out.2.2 e2
        have HS : Hid (Calls Try.prog 10 #[.pointer (some ⟨t, 0, none⟩), .int .u8 (97 + (i : Int)), .int .i64 (1 + (x : Int))] wr fun e w' => e = .returned (.int .u16 (setE (97 + (i : Int)) (1 + (x : Int)))) ∧ Hid (∃ f', Mk t b f' w' ∧ Bd 2147483647 f' ∧ Kp w w')) := by
          refine (set_any HI.out.1 (by omega) (by omega) _).mono ?_
          rintro e w' ⟨he, hm, hf⟩
          exact ⟨he, _, hm, setF_bd HI.out.2.1 (by omega) _ _, Fr.kpn (n := 0) HI.out.2.2 hf H3.out.2.2.1⟩
        clear HI HC
        go_wp2_with fail
        refine Calls.mono HS.out ?_
        rintro e w4 ⟨rfl, H4⟩
        clear HS e2
        go_wp2_with fail
        obtain ⟨f', h4⟩ := H4.out
        exact ⟨⟨i + 1, f', by omega, by go_num, h4⟩, by simp only [intOf]; omega⟩
      · obtain rfl : i = N := by omega
        have g1 : decide ((i : Int) < (i : Int)) = false := by simp
        have HTB : Hid (w.heap.size ≤ b) := H3.out.2.2.1
        clear HC hlt H3 h26' d1 d2 d3 k1 k2
        obtain ⟨A, hA⟩ : ∃ A, A = 1 + p := ⟨_, rfl⟩
        obtain ⟨Z, hZ⟩ : ∃ Z, Z = A + q := ⟨_, rfl⟩
        obtain ⟨n, hn⟩ : ∃ n, n = q + 1 := ⟨_, rfl⟩
        have u1 : 1 + (p : Int) = (A : Int) := by omega
        have u2 : (A : Int) + (q : Int) = (Z : Int) := by omega
        have u3 : (A : Int) - 1 = (p : Int) := by omega
        have u4 : (Z : Int) - (A : Int) = (q : Int) := by omega
        have u5 : (q : Int) + 1 = (n : Int) := by omega
        have HN : Hid (A = 1 + p ∧ Z = A + q ∧ n = q + 1) := ⟨hA, hZ, hn⟩
        have zA : A ≤ 300 := by omega
        have zZ : Z ≤ 600 := by omega
        have zn : n ≤ 300 := by omega
        have HAl : Hid (Calls Try.prog 11 #[.pointer (some ⟨t, 0, none⟩)] wr fun e w' => ∃ v, e = .returned v ∧ Hid (Rdm v (allF f) w' ∧ Mk t b f w' ∧ Kp w w')) := by
          refine (all_any HI.out.1).mono ?_
          rintro e w' ⟨v, he, HH⟩
          exact ⟨v, he, HH.out.1.rdm, HI.out.1.kp HH.out.2, kp_trans HI.out.2.2 HH.out.2⟩
        have HBF : Hid (Bd 2147483647 f ∧ Fine (allF f)) := ⟨HI.out.2.1, all_fine HI.out.1.dom HI.out.2.1 (by omega)⟩
        clear HI hA hZ hn
        go_wp2_with fail
        refine Calls.mono HAl.out ?_
        rintro e w4 ⟨v1, rfl, H4⟩
        clear HAl
        by_cases qr : p ≤ r ∧ r ≤ Z
        · have g3 : decide ((r : Int) ≥ (p : Int)) = true := decide_eq_true (by omega)
          have g4 : decide ((p : Int) ≤ (r : Int)) = true := decide_eq_true (by omega)
          have g5 : decide (p ≤ r) = true := decide_eq_true (by omega)
          have g6 : decide ((r : Int) ≤ (Z : Int)) = true := decide_eq_true (by omega)
          have g7 : decide (r ≤ Z) = true := decide_eq_true (by omega)
          clear qr
          go_wp2_with fail
          go_ret
          exact ⟨rfl, H4.out.2.2⟩
        · by_cases up : r < p
          · have g3 : decide ((r : Int) ≥ (p : Int)) = false := decide_eq_false (by omega)
            have g4 : decide ((p : Int) ≤ (r : Int)) = false := decide_eq_false (by omega)
            have g5 : decide (p ≤ r) = false := decide_eq_false (by omega)
            have g8 : decide ((r : Int) < (A : Int)) = true := decide_eq_true (by have := HN.out; omega)
            have g9 : decide (r < A) = true := decide_eq_true (by have := HN.out; omega)
            obtain ⟨D1, hD1⟩ : ∃ D1, D1 = r + 1 := ⟨_, rfl⟩
            obtain ⟨E, hE⟩ : ∃ E, E = r + n := ⟨_, rfl⟩
            have u6 : (r : Int) + 1 = (D1 : Int) := by omega
            have u7 : (r : Int) + (n : Int) = (E : Int) := by omega
            have HM1 : Hid (Calls Try.prog 12 #[.pointer (some ⟨t, 0, none⟩), .int .i64 A, .int .i64 Z, .int .i64 r] w4 fun e w' => e = .returned (.tuple #[]) ∧ Hid (Rdm v1 (allF f) w' ∧ Mk t b (mvF f A Z r) w' ∧ Kp w w')) := by
              refine (move_any H4.out.2.1 HBF.out.1 (by omega) _ _ _).mono ?_
              rintro e w' ⟨he, hm, hf⟩
              exact ⟨he, H4.out.1.frm H4.out.2.1.map hf, hm, Fr.kpn (n := 0) H4.out.2.2 hf HTB.out⟩
            have HM2 : Hid (∀ W, Rdm v1 (allF f) W ∧ Mk t b (mvF f A Z r) W ∧ Kp w W → Calls Try.prog 12 #[.pointer (some ⟨t, 0, none⟩), .int .i64 D1, .int .i64 E, .int .i64 Z] W fun e w' => e = .returned (.tuple #[]) ∧ Hid (Rdm v1 (allF f) w' ∧ Mk t b f w' ∧ Kp w w')) := fun W hW => by
              refine (move_any hW.2.1 (mvF_bd HBF.out.1 (by omega) _ _ _) (by omega) _ _ _).mono ?_
              rintro e w' ⟨he, hm, hf⟩
              have hN := HN.out
              have e0 : mvF (mvF f A Z r) D1 E Z = f := by
                rw [← u6, ← u7]
                exact turn_up f (by omega) (by omega) (by omega) (by omega) (by omega) (by omega)
              rw [e0] at hm
              exact ⟨he, hW.1.frm hW.2.1.map hf, hm, Fr.kpn (n := 0) hW.2.2 hf HTB.out⟩
            clear hD1 hE up qr
            go_wp2_with fail
            refine Calls.mono HM1.out ?_
            rintro e w5 ⟨rfl, H5⟩
            go_wp2_with fail
            refine Calls.mono (HM2.out w5 H5.out) ?_
            rintro e w6 ⟨rfl, H6⟩
            clear HM1 HM2 H5 H4
            have HAl : Hid (Calls Try.prog 11 #[.pointer (some ⟨t, 0, none⟩)] w6 fun e w' => ∃ v2, e = .returned v2 ∧ Hid (Rdm v1 (allF f) w' ∧ Rdm v2 (allF f) w' ∧ Kp w w')) := by
              refine (all_any H6.out.2.1).mono ?_
              rintro e w' ⟨v2, he, HH⟩
              exact ⟨v2, he, H6.out.1.kp HH.out.2, HH.out.1.rdm, kp_trans H6.out.2.2 HH.out.2⟩
            go_wp2_with fail
            refine Calls.mono HAl.out ?_
            rintro e w7 ⟨v2, rfl, H7⟩
            clear HAl H6 HTB
            obtain ⟨a1, c1, rfl, x1, x2, x3⟩ := H7.out.1
            obtain ⟨a2, c2, rfl, y1, y2, y3⟩ := H7.out.2.1
            obtain ⟨L, hL⟩ : ∃ L, (allF f).length = L := ⟨_, rfl⟩
            have HC : Hid (∀ i, i < L → ∃ x c g g', 0 ≤ x ∧ x < 256 ∧ Rg c ∧ a1 = some ⟨g, 0, none⟩ ∧ w7.cell? ⟨g, i * 2, none⟩ = some (.int .u8 x) ∧ w7.cell? ⟨g, i * 2 + 1, none⟩ = some (.int .i64 c) ∧ a2 = some ⟨g', 0, none⟩ ∧ w7.cell? ⟨g', i * 2, none⟩ = some (.int .u8 x) ∧ w7.cell? ⟨g', i * 2 + 1, none⟩ = some (.int .i64 c)) := fun i hi => by
              have hi' : i < (allF f).length := by omega
              obtain ⟨pp, hp⟩ : ∃ pp, (allF f)[i] = pp := ⟨_, rfl⟩
              obtain ⟨x, c⟩ := pp
              have hg : (allF f)[i]? = some (x, c) := by rw [List.getElem?_eq_getElem hi', hp]
              have hfi := HBF.out.2 (x, c) (by rw [← hp]; exact List.getElem_mem hi')
              obtain ⟨g, e1, e2, e3⟩ := x3 i x c hg
              obtain ⟨g', e1', e2', e3'⟩ := y3 i x c hg
              exact ⟨x, c, g, g', hfi.1, hfi.2.1, hfi.2.2, e1, e2, e3, e1', e2', e3'⟩
            have HK7 : Hid (Kp w w7) := H7.out.2.2
            rw [hL] at x1 y1 ⊢
            unfold maxLen at x2 y2
            clear x3 y3 hL H7 HBF HN u1 u2 u3 u4 u5 u6 u7 g3 g4 g5 g8 g9
            go_wp2_with fail
            go_loopw [17] (fun v17 wr2 => ∃ i : Nat, i ≤ L ∧ v17 = .int .i64 i ∧ Hid (Kp w7 wr2)) (fun v17 _ => L - (intOf v17).toNat)
            case atStart => exact ⟨0, Nat.zero_le _, rfl, Below.refl _ _⟩
            case round =>
              obtain ⟨j, hj, rfl, HKj⟩ := hrel
              by_cases ql : j < L
              · have g10 : decide ((j : Int) < (L : Int)) = true := decide_eq_true (by omega)
                have g11 : decide (j < L) = true := decide_eq_true (by omega)
                obtain ⟨x, c, g, g', x0, x1', hc, rfl, e2, e3, rfl, e2', e3'⟩ := HC.out j ql
                replace e2 := kp_cell HKj.out e2
                replace e3 := kp_cell HKj.out e3
                replace e2' := kp_cell HKj.out e2'
                replace e3' := kp_cell HKj.out e3'
                have heq := fun w => eq_mark x0 x1' hc w
                clear HC hc x0 x1'
                go_wp2_with fail
                go_quiet (fail)
                have HK2 : Hid (Kp w7 (wr.drewN nq)) := kp_trans HKj.out (kp_drewN _ _)
                clear heq e2 e3 e2' e3' HKj
                go_wp2_with fail
                exact ⟨⟨j + 1, by omega, by go_num, HK2.out⟩, by simp only [intOf]; omega⟩
              · obtain rfl : j = L := by omega
                have g10 : decide ((j : Int) < (j : Int)) = false := by simp
                have HE : Hid (Kp w wr) := kp_trans HK7.out HKj.out
                have g12 : ((j : Int) == (j : Int)) = true := by simp
                clear HC
                go_wp2_with fail
                go_ret
                exact ⟨rfl, HE.out⟩
          · have g3 : decide ((r : Int) ≥ (p : Int)) = true := decide_eq_true (by omega)
            have g4 : decide ((p : Int) ≤ (r : Int)) = true := decide_eq_true (by omega)
            have g5 : decide (p ≤ r) = true := decide_eq_true (by omega)
            have g6 : decide ((r : Int) ≤ (Z : Int)) = false := decide_eq_false (by omega)
            have g7 : decide (r ≤ Z) = false := decide_eq_false (by omega)
            have g8 : decide ((r : Int) < (A : Int)) = false := decide_eq_false (by have := HN.out; omega)
            have g9 : decide (r < A) = false := decide_eq_false (by have := HN.out; omega)
            have hZr : Z < r := by omega
            obtain ⟨E, hE⟩ : ∃ E, r = E + n := ⟨r - n, by have := HN.out; omega⟩
            obtain ⟨E1, hE1⟩ : ∃ E1, E1 = E + 1 := ⟨_, rfl⟩
            have u6 : (r : Int) - (n : Int) = (E : Int) := by omega
            have u7 : (E : Int) + 1 = (E1 : Int) := by omega
            have HM1 : Hid (Calls Try.prog 12 #[.pointer (some ⟨t, 0, none⟩), .int .i64 A, .int .i64 Z, .int .i64 r] w4 fun e w' => e = .returned (.tuple #[]) ∧ Hid (Rdm v1 (allF f) w' ∧ Mk t b (mvF f A Z r) w' ∧ Kp w w')) := by
              refine (move_any H4.out.2.1 HBF.out.1 (by omega) _ _ _).mono ?_
              rintro e w' ⟨he, hm, hf⟩
              exact ⟨he, H4.out.1.frm H4.out.2.1.map hf, hm, Fr.kpn (n := 0) H4.out.2.2 hf HTB.out⟩
            have HM2 : Hid (∀ W, Rdm v1 (allF f) W ∧ Mk t b (mvF f A Z r) W ∧ Kp w W → Calls Try.prog 12 #[.pointer (some ⟨t, 0, none⟩), .int .i64 E1, .int .i64 r, .int .i64 p] W fun e w' => e = .returned (.tuple #[]) ∧ Hid (Rdm v1 (allF f) w' ∧ Mk t b f w' ∧ Kp w w')) := fun W hW => by
              refine (move_any hW.2.1 (mvF_bd HBF.out.1 (by omega) _ _ _) (by omega) _ _ _).mono ?_
              rintro e w' ⟨he, hm, hf⟩
              have hN := HN.out
              have e0 : mvF (mvF f A Z r) E1 r p = f := by
                rw [← u7, ← u6, ← u3]
                exact turn_down f (by omega) (by omega) (by omega) (by omega) (by omega)
              rw [e0] at hm
              exact ⟨he, hW.1.frm hW.2.1.map hf, hm, Fr.kpn (n := 0) hW.2.2 hf HTB.out⟩
            clear hE hE1 up qr
            go_wp2_with fail
            refine Calls.mono HM1.out ?_
            rintro e w5 ⟨rfl, H5⟩
            go_wp2_with fail
            refine Calls.mono (HM2.out w5 H5.out) ?_
            rintro e w6 ⟨rfl, H6⟩
            clear HM1 HM2 H5 H4
            have HAl : Hid (Calls Try.prog 11 #[.pointer (some ⟨t, 0, none⟩)] w6 fun e w' => ∃ v2, e = .returned v2 ∧ Hid (Rdm v1 (allF f) w' ∧ Rdm v2 (allF f) w' ∧ Kp w w')) := by
              refine (all_any H6.out.2.1).mono ?_
              rintro e w' ⟨v2, he, HH⟩
              exact ⟨v2, he, H6.out.1.kp HH.out.2, HH.out.1.rdm, kp_trans H6.out.2.2 HH.out.2⟩
            go_wp2_with fail
            refine Calls.mono HAl.out ?_
            rintro e w7 ⟨v2, rfl, H7⟩
            clear HAl H6 HTB
            obtain ⟨a1, c1, rfl, x1, x2, x3⟩ := H7.out.1
            obtain ⟨a2, c2, rfl, y1, y2, y3⟩ := H7.out.2.1
            obtain ⟨L, hL⟩ : ∃ L, (allF f).length = L := ⟨_, rfl⟩
            have HC : Hid (∀ i, i < L → ∃ x c g g', 0 ≤ x ∧ x < 256 ∧ Rg c ∧ a1 = some ⟨g, 0, none⟩ ∧ w7.cell? ⟨g, i * 2, none⟩ = some (.int .u8 x) ∧ w7.cell? ⟨g, i * 2 + 1, none⟩ = some (.int .i64 c) ∧ a2 = some ⟨g', 0, none⟩ ∧ w7.cell? ⟨g', i * 2, none⟩ = some (.int .u8 x) ∧ w7.cell? ⟨g', i * 2 + 1, none⟩ = some (.int .i64 c)) := fun i hi => by
              have hi' : i < (allF f).length := by omega
              obtain ⟨pp, hp⟩ : ∃ pp, (allF f)[i] = pp := ⟨_, rfl⟩
              obtain ⟨x, c⟩ := pp
              have hg : (allF f)[i]? = some (x, c) := by rw [List.getElem?_eq_getElem hi', hp]
              have hfi := HBF.out.2 (x, c) (by rw [← hp]; exact List.getElem_mem hi')
              obtain ⟨g, e1, e2, e3⟩ := x3 i x c hg
              obtain ⟨g', e1', e2', e3'⟩ := y3 i x c hg
              exact ⟨x, c, g, g', hfi.1, hfi.2.1, hfi.2.2, e1, e2, e3, e1', e2', e3'⟩
            have HK7 : Hid (Kp w w7) := H7.out.2.2
            rw [hL] at x1 y1 ⊢
            unfold maxLen at x2 y2
            clear x3 y3 hL H7 HBF HN u1 u2 u3 u4 u5 u6 u7 g3 g4 g5 g8 g9
            go_wp2_with fail
            go_loopw [17] (fun v17 wr2 => ∃ i : Nat, i ≤ L ∧ v17 = .int .i64 i ∧ Hid (Kp w7 wr2)) (fun v17 _ => L - (intOf v17).toNat)
            case atStart => exact ⟨0, Nat.zero_le _, rfl, Below.refl _ _⟩
            case round =>
              obtain ⟨j, hj, rfl, HKj⟩ := hrel
              by_cases ql : j < L
              · have g10 : decide ((j : Int) < (L : Int)) = true := decide_eq_true (by omega)
                have g11 : decide (j < L) = true := decide_eq_true (by omega)
                obtain ⟨x, c, g, g', x0, x1', hc, rfl, e2, e3, rfl, e2', e3'⟩ := HC.out j ql
                replace e2 := kp_cell HKj.out e2
                replace e3 := kp_cell HKj.out e3
                replace e2' := kp_cell HKj.out e2'
                replace e3' := kp_cell HKj.out e3'
                have heq := fun w => eq_mark x0 x1' hc w
                clear HC hc x0 x1'
                go_wp2_with fail
                go_quiet (fail)
                have HK2 : Hid (Kp w7 (wr.drewN nq)) := kp_trans HKj.out (kp_drewN _ _)
                clear heq e2 e3 e2' e3' HKj
                go_wp2_with fail
                exact ⟨⟨j + 1, by omega, by go_num, HK2.out⟩, by simp only [intOf]; omega⟩
              · obtain rfl : j = L := by omega
                have g10 : decide ((j : Int) < (j : Int)) = false := by simp
                have HE : Hid (Kp w wr) := kp_trans HK7.out HKj.out
                have g12 : ((j : Int) == (j : Int)) = true := by simp
                clear HC
                go_wp2_with fail
                go_ret
                exact ⟨rfl, HE.out⟩
end Go.Proofs.Ytmceophmdkcgcaa
/- MarksCopy: the walk. -/
namespace Go.Proofs.Ytmceophmdkcgcaa
open Go.ChangeShapes Go.WideShapes Go.ChangeAt Go.RowKit Go.Maps Go.MapKept
set_option linter.unusedVariables false
set_option linter.unusedSimpArgs false
/-- A call as it is read at a place. -/
theorem Opl.at_ {v : Value} {l : List Op5} {w : World} (h : Opl v l w) : ∃ a cap, v = .slice a l.length cap ∧ l.length ≤ cap ∧ cap ≤ maxLen ∧ ∀ i (hi : i < l.length), ∃ B o, a = some ⟨B, o, none⟩ ∧
    w.cell? ⟨B, o + i * 5, none⟩ = some (.int .u8 (l[i].kd : Int)) ∧ w.cell? ⟨B, o + i * 5 + 1, none⟩ = some (.int .u8 (l[i].nm : Int)) ∧ w.cell? ⟨B, o + i * 5 + 2, none⟩ = some (.int .i64 l[i].a) ∧ w.cell? ⟨B, o + i * 5 + 3, none⟩ = some (.int .i64 l[i].b) ∧ w.cell? ⟨B, o + i * 5 + 4, none⟩ = some (.int .i64 l[i].c) := by
  obtain ⟨a, cap, rfl, h1, h2, h3⟩ := h
  refine ⟨a, cap, rfl, h1, h2, fun i hi => ?_⟩
  obtain ⟨B, o, e, _, hc⟩ := h3 i l[i] (List.getElem?_eq_getElem hi)
  exact ⟨B, o, e, hc 0 (by omega), hc 1 (by omega), hc 2 (by omega), hc 3 (by omega), hc 4 (by omega)⟩
set_option maxHeartbeats 32000000 in
set_option maxRecDepth 100000 in
theorem copy_walk {v : Value} {l : List Op5} {w : World} (h : Opl v l w) (hok : ∀ t ∈ l, t.ok) (m : Op5) (hm : m.ok) : Calls Try.prog 7 #[v, .agg m.cells.toArray] w fun e w' => e = .returned (.bool true) ∧ Kp w w' := by
  obtain ⟨va, cap, rfl, k1, k2, k3⟩ := h.at_
  obtain ⟨N, hN⟩ : ∃ N, l.length = N := ⟨_, rfl⟩
  have HC : Hid (∀ i, i < N → ∃ B o y a, y < 256 ∧ va = some ⟨B, o, none⟩ ∧ w.cell? ⟨B, o + i * 5 + 1, none⟩ = some (.int .u8 ((y : Nat) : Int)) ∧ w.cell? ⟨B, o + i * 5 + 2, none⟩ = some (.int .i64 a)) := fun i hi => by
    obtain ⟨B, o, e, _, c1, c2, _⟩ := k3 i (by omega)
    exact ⟨B, o, _, _, (hok _ (List.getElem_mem (by omega))).nm, e, c1, c2⟩
  have hmn := hm.nm
  obtain ⟨ob, hob⟩ : ∃ ob, w.heap.size = ob := ⟨_, rfl⟩
  obtain ⟨w1, hw1⟩ : ∃ w1, w.alloc (.cells m.cells.toArray 42) = w1 := ⟨_, rfl⟩
  have H1 : Hid (Lc 42 ob m.cells w1 ∧ Kp w w1) := by
    rw [← hob, ← hw1]; exact ⟨Lc.new w m.cells 42, kp_alloc _ _⟩
  obtain ⟨kd, nm, a, b0, c⟩ := m
  simp only [Op5.cells] at hw1 H1 hmn ⊢
  rw [hN] at k1 ⊢
  unfold maxLen at k2
  clear k3 hN h hok hm
  by_cases h60 : 60 < N
  · have d1 : decide ((N : Int) > 60) = true := decide_eq_true (by omega)
    have d2 : decide ((60 : Int) < (N : Int)) = true := decide_eq_true (by omega)
    have d3 : decide (60 < N) = true := decide_eq_true (by omega)
    clear HC h60
    go_enter Try.func7, Try.ntmps7
    go_wp2_with fail
    refine Calls.mono (kknown_any w1) ?_
    rintro e w2 ⟨rfl, kk⟩
    have HK : Hid (Kp w w2) := kp_trans H1.out.2 kk
    clear kk H1 hob hw1
    go_wp2_with fail
    go_ret
    exact ⟨rfl, HK.out⟩
  · have d1 : decide ((N : Int) > 60) = false := decide_eq_false (by omega)
    have d2 : decide ((60 : Int) < (N : Int)) = false := decide_eq_false (by omega)
    have d3 : decide (60 < N) = false := decide_eq_false (by omega)
    have h60' : N ≤ 60 := by omega
    clear h60
    go_enter Try.func7, Try.ntmps7
    go_wp2_with fail
    refine Calls.mono (kknown_any w1) ?_
    rintro e w2 ⟨rfl, kk⟩
    have HK : Hid (Kp w w2 ∧ Lc 42 ob [.int .u8 kd, .int .u8 nm, .int .i64 a, .int .i64 b0, .int .i64 c] w2) := ⟨kp_trans H1.out.2 kk, H1.out.1.kp kk⟩
    have hobw : w.heap.size ≤ ob := by omega
    clear kk H1 hob hw1
    go_wp2_with fail
    refine Calls.mono (new_any w2) ?_
    rintro e w3 ⟨t, b, rfl, h3, k3, ht, hb⟩
    have H3 : Hid (Mk t b (fun _ => none) w3 ∧ Kp w w3 ∧ Lc 42 ob [.int .u8 kd, .int .u8 nm, .int .i64 a, .int .i64 b0, .int .i64 c] w3 ∧ w.heap.size ≤ b) := ⟨h3, kp_trans HK.out.1 k3, HK.out.2.kp k3, by have := HK.out.1.size; omega⟩
    clear h3 k3 ht hb HK
    go_wp2_with fail
    go_loopw [6] (fun v6 wr => ∃ (i : Nat) (f : Mf), i ≤ N ∧ v6 = .int .i64 i ∧ Hid (Mk t b f wr ∧ Bd 2147483647 f ∧ Kp w wr ∧ Lc 42 ob [.int .u8 kd, .int .u8 nm, .int .i64 a, .int .i64 b0, .int .i64 c] wr)) (fun v6 _ => N - (intOf v6).toNat)
    case atStart => exact ⟨0, _, Nat.zero_le _, rfl, H3.out.1, bd_none _, H3.out.2.1, H3.out.2.2.1⟩
    case round =>
      obtain ⟨i, f, hi, rfl, HI⟩ := hrel
      by_cases hlt : i < N
      · have g1 : decide ((i : Int) < (N : Int)) = true := decide_eq_true (by omega)
        have g2 : decide (i < N) = true := decide_eq_true (by omega)
        obtain ⟨B, o, y, aa, hy, rfl, e1, e2⟩ := HC.out i hlt
        replace e1 := kp_cell HI.out.2.2.1 e1
        replace e2 := kp_cell HI.out.2.2.1 e2
        have HS : Hid (∀ mm, Calls Try.prog 10 #[.pointer (some ⟨t, 0, none⟩), .int .u8 y, .int .i64 aa] (wr.drewN mm) fun e w' => e = .returned (.int .u16 (setE y aa)) ∧ Hid (∃ f', Mk t b f' w' ∧ Bd 2147483647 f' ∧ Kp w w' ∧ Lc 42 ob [.int .u8 kd, .int .u8 nm, .int .i64 a, .int .i64 b0, .int .i64 c] w')) := fun mm => by
          refine (set_any (HI.out.1.kp (kp_drewN _ mm)) (by omega) (by omega) _).mono ?_
          rintro e w' ⟨he, hm, hf⟩
          refine ⟨he, _, hm, setF_bd HI.out.2.1 (by omega) _ _, Fr.kpn (n := 0) (kp_trans HI.out.2.2.1 (kp_drewN _ mm)) hf H3.out.2.2.2, (HI.out.2.2.2.kp (kp_drewN _ mm)).fr hf ?_⟩
          exact (HI.out.1.map.kp (kp_drewN _ mm)).ne (HI.out.2.2.2.kp (kp_drewN _ mm))
        clear HI HC
        go_wp2_with fail
        go_region_with (go_at_call 10; refine Calls.mono (HS.out _) ?_; rintro e w4 ⟨rfl, H4⟩)
        all_goals
          clear HS e1 e2
          go_wp2_with fail
          obtain ⟨f', h4⟩ := H4.out
          exact ⟨⟨i + 1, f', by omega, by go_num, h4⟩, by simp only [intOf]; omega⟩
      · obtain rfl : i = N := by omega
        have g1 : decide ((i : Int) < (i : Int)) = false := by simp
        have HTB : Hid (w.heap.size ≤ b) := H3.out.2.2.2
        clear HC hlt H3 h60' d1 d2 d3 k1 k2
        have HF : Hid (Fine (allF f) ∧ Bd 2147483647 f) := ⟨all_fine HI.out.1.dom HI.out.2.1 (by omega), HI.out.2.1⟩
        have HAl : Hid (Calls Try.prog 11 #[.pointer (some ⟨t, 0, none⟩)] wr fun e w' => ∃ v, e = .returned v ∧ Hid (Rdm v (allF f) w' ∧ Mk t b f w' ∧ Kp w w' ∧ Lc 42 ob [.int .u8 kd, .int .u8 nm, .int .i64 a, .int .i64 b0, .int .i64 c] w')) := by
          refine (all_any HI.out.1).mono ?_
          rintro e w' ⟨v, he, HH⟩
          exact ⟨v, he, HH.out.1.rdm, HI.out.1.kp HH.out.2, kp_trans HI.out.2.2.1 HH.out.2, HI.out.2.2.2.kp HH.out.2⟩
        clear HI
        go_wp2_with fail
        refine Calls.mono HAl.out ?_
        rintro e w4 ⟨v1, rfl, H4⟩
        clear HAl
        have HCp : Hid (Calls Try.prog 19 #[.pointer (some ⟨t, 0, none⟩)] w4 fun e w' => ∃ t' b', e = .returned (.pointer (some ⟨t', 0, none⟩)) ∧ Hid (Mk t' b' f w' ∧ Rdm v1 (allF f) w' ∧ Mk t b f w' ∧ Kp w w' ∧ Lc 42 ob [.int .u8 kd, .int .u8 nm, .int .i64 a, .int .i64 b0, .int .i64 c] w' ∧ b' ≠ b ∧ b' ≠ t ∧ w.heap.size ≤ b')) := by
          refine (copy_any H4.out.2.1).mono ?_
          rintro e w' ⟨t', b', he, hm, hk, ht', hb'⟩
          have l1 := H4.out.2.1.map.lt
          have l2 := H4.out.2.1.box.lt
          have l3 := H4.out.2.2.1.size
          exact ⟨t', b', he, hm, H4.out.1.kp hk, H4.out.2.1.kp hk, kp_trans H4.out.2.2.1 hk, H4.out.2.2.2.kp hk, by omega, by omega, by omega⟩
        go_wp2_with fail
        refine Calls.mono HCp.out ?_
        rintro e w5 ⟨t', b', rfl, H5⟩
        clear HCp H4
        have HA2 : Hid (Calls Try.prog 11 #[.pointer (some ⟨t', 0, none⟩)] w5 fun e w' => ∃ v, e = .returned v ∧ Hid (Rdm v (allF f) w' ∧ Mk t' b' f w' ∧ Rdm v1 (allF f) w' ∧ Mk t b f w' ∧ Kp w w' ∧ Lc 42 ob [.int .u8 kd, .int .u8 nm, .int .i64 a, .int .i64 b0, .int .i64 c] w' ∧ b' ≠ b ∧ b' ≠ t ∧ w.heap.size ≤ b')) := by
          refine (all_any H5.out.1).mono ?_
          rintro e w' ⟨v, he, HH⟩
          obtain ⟨p1, p2, p3, p4, p5, p6⟩ := H5.out
          exact ⟨v, he, HH.out.1.rdm, p1.kp HH.out.2, p2.kp HH.out.2, p3.kp HH.out.2, kp_trans p4 HH.out.2, p5.kp HH.out.2, p6⟩
        go_wp2_with fail
        refine Calls.mono HA2.out ?_
        rintro e w6 ⟨v2, rfl, H6⟩
        clear HA2 H5
        have HSm : Hid (Calls Try.prog 21 #[v2, v1] w6 fun e w' => e = .returned (.bool true) ∧ Hid (Mk t' b' f w' ∧ Rdm v1 (allF f) w' ∧ Mk t b f w' ∧ Kp w w' ∧ Lc 42 ob [.int .u8 kd, .int .u8 nm, .int .i64 a, .int .i64 b0, .int .i64 c] w' ∧ b' ≠ b ∧ b' ≠ t ∧ w.heap.size ≤ b')) := by
          refine (jsame_any HF.out.1 H6.out.1 H6.out.2.2.1).mono ?_
          rintro e w' ⟨he, hk⟩
          obtain ⟨_, p1, p2, p3, p4, p5, p6⟩ := H6.out
          exact ⟨he, p1.kp hk, p2.kp hk, p3.kp hk, kp_trans p4 hk, p5.kp hk, p6⟩
        go_wp2_with fail
        refine Calls.mono HSm.out ?_
        rintro e w7 ⟨rfl, H7⟩
        clear HSm H6
        have b1 := H7.out.2.2.2.2.1.at (j := 1) rfl
        have b2 := H7.out.2.2.2.2.1.at (j := 2) rfl
        have HSt : Hid (Calls Try.prog 10 #[.pointer (some ⟨t', 0, none⟩), .int .u8 nm, .int .i64 a] w7 fun e w' => e = .returned (.int .u16 (setE nm a)) ∧ Hid (Mk t' b' (setF f nm a) w' ∧ Rdm v1 (allF f) w' ∧ Mk t b f w' ∧ Kp w w' ∧ Lc 42 ob [.int .u8 kd, .int .u8 nm, .int .i64 a, .int .i64 b0, .int .i64 c] w' ∧ b' ≠ b ∧ b' ≠ t ∧ w.heap.size ≤ b')) := by
          obtain ⟨p1, p2, p3, p4, p5, p6, p7, p8⟩ := H7.out
          refine (set_any p1 (by omega) (by omega) _).mono ?_
          rintro e w' ⟨he, hm, hf⟩
          exact ⟨he, hm, p2.frm p1.map hf, p3.fr hf (fun q => p7 q.symm) (fun q => p6 q.symm), Fr.kpn (n := 0) p4 hf p8, p5.fr hf (p1.map.ne p5), p6, p7, p8⟩
        go_wp2_with fail
        refine Calls.mono HSt.out ?_
        rintro e w8 ⟨rfl, H8⟩
        clear HSt H7 b1 b2
        have b2 := H8.out.2.2.2.2.1.at (j := 2) rfl
        have b3 := H8.out.2.2.2.2.1.at (j := 3) rfl
        have b4 := H8.out.2.2.2.2.1.at (j := 4) rfl
        have HSp : Hid (Calls Try.prog 15 #[.pointer (some ⟨t', 0, none⟩), .int .i64 a, .int .i64 b0, .int .i64 c] w8 fun e w' => e = .returned (.tuple #[]) ∧ Hid (Mk t' b' (spF (setF f nm a) a b0 c) w' ∧ Rdm v1 (allF f) w' ∧ Mk t b f w' ∧ Kp w w' ∧ Lc 42 ob [.int .u8 kd, .int .u8 nm, .int .i64 a, .int .i64 b0, .int .i64 c] w' ∧ b' ≠ b ∧ b' ≠ t ∧ w.heap.size ≤ b')) := by
          obtain ⟨p1, p2, p3, p4, p5, p6, p7, p8⟩ := H8.out
          refine (splice_any p1 (setF_bd HF.out.2 (by omega) _ _) (by omega) _ _ _).mono ?_
          rintro e w' ⟨he, hm, hf⟩
          exact ⟨he, hm, p2.frm p1.map hf, p3.fr hf (fun q => p7 q.symm) (fun q => p6 q.symm), Fr.kpn (n := 0) p4 hf p8, p5.fr hf (p1.map.ne p5), p6, p7, p8⟩
        go_wp2_with fail
        refine Calls.mono HSp.out ?_
        rintro e w9 ⟨rfl, H9⟩
        clear HSp H8 b2 b3 b4
        have b2 := H9.out.2.2.2.2.1.at (j := 2) rfl
        have b3 := H9.out.2.2.2.2.1.at (j := 3) rfl
        have b4 := H9.out.2.2.2.2.1.at (j := 4) rfl
        have HMv : Hid (Calls Try.prog 12 #[.pointer (some ⟨t', 0, none⟩), .int .i64 a, .int .i64 b0, .int .i64 c] w9 fun e w' => e = .returned (.tuple #[]) ∧ Hid (Rdm v1 (allF f) w' ∧ Mk t b f w' ∧ Kp w w')) := by
          obtain ⟨p1, p2, p3, p4, p5, p6, p7, p8⟩ := H9.out
          refine (move_any p1 (spF_bd (setF_bd HF.out.2 (by omega) _ _) _ _ _) (by omega) _ _ _).mono ?_
          rintro e w' ⟨he, hm, hf⟩
          exact ⟨he, p2.frm p1.map hf, p3.fr hf (fun q => p7 q.symm) (fun q => p6 q.symm), Fr.kpn (n := 0) p4 hf p8⟩
        go_wp2_with fail
        refine Calls.mono HMv.out ?_
        rintro e w10 ⟨rfl, H10⟩
        clear HMv H9 b2 b3 b4
        have HA3 : Hid (Calls Try.prog 11 #[.pointer (some ⟨t, 0, none⟩)] w10 fun e w' => ∃ v, e = .returned v ∧ Hid (Rdm v (allF f) w' ∧ Rdm v1 (allF f) w' ∧ Kp w w')) := by
          refine (all_any H10.out.2.1).mono ?_
          rintro e w' ⟨v, he, HH⟩
          exact ⟨v, he, HH.out.1.rdm, H10.out.1.kp HH.out.2, kp_trans H10.out.2.2 HH.out.2⟩
        go_wp2_with fail
        refine Calls.mono HA3.out ?_
        rintro e w11 ⟨v3, rfl, H11⟩
        clear HA3 H10
        have HS2 : Hid (Calls Try.prog 21 #[v3, v1] w11 fun e w' => e = .returned (.bool true) ∧ Kp w w') := by
          refine (jsame_any HF.out.1 H11.out.1 H11.out.2.1).mono ?_
          rintro e w' ⟨he, hk⟩
          exact ⟨he, kp_trans H11.out.2.2 hk⟩
        go_wp2_with fail
        refine Calls.mono HS2.out ?_
        rintro e w12 ⟨rfl, hk12⟩
        have H12 : Hid (Kp w w12) := hk12
        clear HS2 H11 hk12
        go_wp2_with fail
        go_ret
        exact ⟨rfl, H12.out⟩
end Go.Proofs.Ytmceophmdkcgcaa
/- Lines told apart, and the mark that follows one of them: on lists alone. -/
namespace Go.Proofs.Ytmceophmdkcgcaa
open Go.ChangeShapes Go.WideShapes Go.ChangeAt Go.RowKit Go.Maps Go.MapKept
set_option linter.unusedVariables false
set_option linter.unusedSimpArgs false
/-- The mark x lies where the line 'mine' lies. -/
def In (mine : Int) (L : List Int) (f : Mf) : Prop := ∀ p : Nat, L[p]? = some mine ↔ f 120 = some ((p : Int) + 1)
def spG (L : List Int) (a b c p : Nat) : Option Int := if p < a - 1 then L[p]? else if p < a - 1 + c then (if p < a - 1 + b then L[p]? else some (-1)) else L[p - c + b]?
def mvG (L : List Int) (a z d p : Nat) : Option Int :=
  if d + 1 < a then (if p < d then L[p]? else if p < d + (z + 1 - a) then L[p - d + (a - 1)]? else if p < z then L[p - (z + 1 - a)]? else L[p]?)
  else if z < d then (if p < a - 1 then L[p]? else if p < d - (z + 1 - a) then L[p + (z + 1 - a)]? else if p < d then L[p - (d - (z + 1 - a)) + (a - 1)]? else L[p]?)
  else L[p]?
section
variable {mine M : Int} {L L' : List Int} {f : Mf} {a b c z d : Nat}
theorem In.at_ (h : In mine L f) (hB : Bd M f) {x : Int} (hx : f 120 = some x) : 1 ≤ x ∧ x ≤ L.length := by
  have h1 := (hB _ _ hx).1
  have h2 := (h (x - 1).toNat).2 (by rw [hx]; congr 1; omega)
  have h3 := (List.getElem?_eq_some_iff.1 h2).1
  omega
theorem In.splice (h : In mine L f) (hm : 0 ≤ mine) (hB : Bd M f) (ha : 1 ≤ a) (hab : a - 1 + b ≤ L.length) (hL : L.length ≤ 1000) (hc : c ≤ 1000) (hl : L'.length = L.length - b + c) (hg : ∀ p, p < L'.length → L'[p]? = spG L a b c p) : In mine L' (spF f a b c) := by
  intro p
  have e1 : spF f a b c = fun x => (f x).bind (spl a b c) := by unfold spF; rw [if_neg (by omega)]
  rw [e1]
  show L'[p]? = some mine ↔ (f 120).bind (spl a b c) = some ((p : Int) + 1)
  cases hf : f 120 with
  | none =>
    have hno : ∀ q, L[q]? ≠ some mine := fun q hq => by have := (h q).1 hq; rw [hf] at this; cases this
    simp only [Option.bind_none, reduceCtorEq, iff_false]
    intro hp
    have hlt := (List.getElem?_eq_some_iff.1 hp).1
    rw [hg p hlt] at hp
    unfold spG at hp
    split at hp
    · exact hno _ hp
    · split at hp
      · split at hp
        · exact hno _ hp
        · simp only [Option.some.injEq] at hp; omega
      · exact hno _ hp
  | some x =>
    have hx := h.at_ hB hf
    have hq : ∀ q : Nat, L[q]? = some mine ↔ x = (q : Int) + 1 := fun q => by rw [h q, hf]; simp
    simp only [Option.bind_some]
    by_cases hlt : p < L'.length
    · rw [hg p hlt]
      unfold spG spl
      repeat' split
      all_goals first
        | (rw [hq]; simp only [Option.some.injEq, reduceCtorEq, iff_false] <;> omega)
        | (simp only [Option.some.injEq, reduceCtorEq, iff_false] <;> omega)
    · rw [List.getElem?_eq_none (by omega)]
      unfold spl
      repeat' split
      all_goals simp only [reduceCtorEq, false_iff, Option.some.injEq]; try omega
      all_goals simp
theorem In.move (h : In mine L f) (hB : Bd M f) (ha : 1 ≤ a) (haz : a ≤ z) (hz : z ≤ L.length) (hd : d ≤ L.length) (hL : L.length ≤ 1000) (hl : L'.length = L.length) (hg : ∀ p, p < L'.length → L'[p]? = mvG L a z d p) : In mine L' (mvF f a z d) := by
  intro p
  cases hf : f 120 with
  | none =>
    have hno : ∀ q, L[q]? ≠ some mine := fun q hq => by have := (h q).1 hq; rw [hf] at this; cases this
    have e1 : mvF f a z d 120 = none := by unfold mvF; repeat' split
                                           all_goals first | exact hf | simp only [hf, Option.bind_none]
    rw [e1]
    simp only [reduceCtorEq, iff_false]
    intro hp
    have hlt := (List.getElem?_eq_some_iff.1 hp).1
    rw [hg p hlt] at hp
    unfold mvG at hp
    repeat' split at hp
    all_goals exact hno _ hp
  | some x =>
    have hx := h.at_ hB hf
    have hq : ∀ q : Nat, L[q]? = some mine ↔ x = (q : Int) + 1 := fun q => by rw [h q, hf]; simp
    by_cases hlt : p < L'.length
    · rw [hg p hlt]
      unfold mvG mvF
      rw [if_neg (show ¬ ((a : Int) < 1 ∨ (z : Int) < a ∨ 2147483647 < (z : Int) ∨ (d : Int) < 0 ∨ 2147483647 < (d : Int)) by omega)]
      by_cases q1 : z < d
      · rw [if_pos (show (z : Int) < d by omega), if_neg (show ¬ d + 1 < a by omega), if_pos q1]
        simp only [hf, Option.bind_some]
        unfold exc
        repeat' split
        all_goals (rw [hq]; simp only [Option.some.injEq, reduceCtorEq, iff_false] <;> omega)
      · rw [if_neg (show ¬ (z : Int) < d by omega)]
        by_cases q2 : d + 1 < a
        · rw [if_pos (show (d : Int) < (a : Int) - 1 by omega), if_pos q2]
          simp only [hf, Option.bind_some]
          unfold exc
          repeat' split
          all_goals (rw [hq]; simp only [Option.some.injEq, reduceCtorEq, iff_false] <;> omega)
        · rw [if_neg (show ¬ (d : Int) < (a : Int) - 1 by omega), if_neg q2, if_neg q1, hq, hf, Option.some.injEq]
    · rw [List.getElem?_eq_none (by omega)]
      have e2 : ∀ y, mvF f a z d 120 = some y → y ≤ L.length := by
        intro y
        unfold mvF
        repeat' split
        all_goals
          simp only [hf, Option.bind_some, Option.some.injEq]
          try unfold exc
          try (repeat' split)
          all_goals (try simp only [Option.some.injEq]) ; omega
      simp only [reduceCtorEq, false_iff]
      intro q
      have := e2 _ q
      omega
/-- What is told of each place of a list. -/
def Tld (g : Nat → Option Int) (O : List Int) : Prop := ∀ p, p < O.length → O[p]? = g p
theorem tld_nil (g : Nat → Option Int) : Tld g [] := fun p hp => by simp at hp
theorem Tld.app {g : Nat → Option Int} {O X : List Int} (h : Tld g O) (hx : ∀ j, j < X.length → X[j]? = g (O.length + j)) : Tld g (O ++ X) := fun p hp => by
  by_cases q : p < O.length
  · rw [List.getElem?_append_left q]; exact h p q
  · rw [List.getElem?_append_right (by omega), hx _ (by simp at hp; omega)]; congr 1; omega
/-- How many lines there are ahead of round k. -/
def mlen (a z d k : Nat) : Nat :=
  if d ≤ z then (if k ≤ (if d = z then a - 1 else d) then k - 1 else if k ≤ a then k - 1 + (z + 1 - a) else if k ≤ z + 1 then z else k - 1)
  else if k ≤ a then k - 1 else if k ≤ z + 1 then a - 1 else if k ≤ d then k - 1 - (z + 1 - a) else k - 1
section
variable {a z d k : Nat} {L O : List Int}
def fst1 (a z k : Nat) : Nat := if 0 < k ∧ (k < a ∨ z < k) then 1 else 0
def snd1 (a z d k : Nat) : Nat := if (k = d ∧ d ≠ z) ∨ (k = a - 1 ∧ d = z) then z + 1 - a else 0
theorem mlen_succ (ha : 1 ≤ a) (haz : a ≤ z) (hd : ¬ (a ≤ d ∧ d < z)) : mlen a z d (k + 1) = mlen a z d k + fst1 a z k + snd1 a z d k := by
  unfold mlen fst1 snd1
  repeat' split
  all_goals omega
theorem mlen_le {n : Nat} (ha : 1 ≤ a) (haz : a ≤ z) (hz : z ≤ n) (hd : ¬ (a ≤ d ∧ d < z)) (hk : k ≤ n + 1) : mlen a z d k + fst1 a z k ≤ n + 1 := by
  unfold mlen fst1
  repeat' split
  all_goals omega
theorem mlen_zero (ha : 1 ≤ a) (haz : a ≤ z) : mlen a z d 0 = 0 := by
  unfold mlen
  repeat' split
  all_goals omega
theorem mlen_end {n : Nat} (ha : 1 ≤ a) (haz : a ≤ z) (hz : z ≤ n) (hd : d ≤ n) (hd' : ¬ (a ≤ d ∧ d < z)) : mlen a z d (n + 1) = n := by
  unfold mlen
  repeat' split
  all_goals omega
set_option maxHeartbeats 4000000 in
theorem mv_one (ha : 1 ≤ a) (haz : a ≤ z) (hd : ¬ (a ≤ d ∧ d < z)) (h0 : 0 < k) (hk : k < a ∨ z < k) : mvG L a z d (mlen a z d k) = L[k - 1]? := by
  unfold mvG mlen
  repeat' split
  all_goals first | omega | rfl | (congr 1 <;> omega)
set_option maxHeartbeats 4000000 in
theorem mv_blk (ha : 1 ≤ a) (haz : a ≤ z) (hd : ¬ (a ≤ d ∧ d < z)) (hk : (k = d ∧ d ≠ z) ∨ (k = a - 1 ∧ d = z)) {j : Nat} (hj : j < z + 1 - a) : mvG L a z d (mlen a z d k + fst1 a z k + j) = L[a - 1 + j]? := by
  unfold mvG mlen fst1
  repeat' split
  all_goals first | omega | rfl | (congr 1 <;> omega)
end
end
end Go.Proofs.Ytmceophmdkcgcaa
/- Lines told apart, as they lie in memory. -/
namespace Go.Proofs.Ytmceophmdkcgcaa
open Go.ChangeShapes Go.WideShapes Go.ChangeAt Go.RowKit Go.Maps Go.MapKept
set_option linter.unusedVariables false
set_option linter.unusedSimpArgs false
def zs (L : List Int) : List Value := L.map (Value.int .i64)
theorem zs_len (L : List Int) : (zs L).length = L.length := by simp [zs]
theorem zs_one (L : List Int) : ∀ u ∈ zs L, u.oneCell' = true := fun u hu => by
  obtain ⟨x, _, rfl⟩ := List.mem_map.1 hu
  rfl
theorem zs_app (L O : List Int) : zs (L ++ O) = zs L ++ zs O := by simp [zs]
theorem infoInt : (Try.prog.info? 3).map (fun i => (i.zero, i.size, i.bytes)) = some (some (.int .i64 0), 1, 8) := by kernel_rfl
/-- A list of lines of the call's own. -/
def Tx (B : Nat) (v : Value) (L : List Int) (w : World) : Prop := w.ownsRow B 3 1 v L.length (zs L)
section
variable {B : Nat} {v v' : Value} {L O : List Int} {w w1 W W1 : World}
theorem Tx.kp (h : Tx B v L w) (k : Kp w w1) : Tx B v L w1 := row_kp h k
theorem Tx.at_ {ga : Option Addr} {n c : Nat} (h : Tx B (.slice ga n c) L w) {i : Nat} {x : Int} (hi : L[i]? = some x) : ∃ g, ga = some ⟨g, 0, none⟩ ∧ w.cell? ⟨g, i, none⟩ = some (.int .i64 x) := by
  have hl := (List.getElem?_eq_some_iff.1 hi).1
  rcases h.2 with ⟨_, q⟩ | ⟨g, cap, cur, e, _, hg, _, _, _, ht⟩
  · omega
  · simp only [Value.slice.injEq] at e
    refine ⟨g, e.1, ?_⟩
    rw [cell_at hg]
    have h1 : (zs L)[i]? = some (.int .i64 x) := by simp [zs, hi]
    rw [← ht, List.getElem?_take_of_lt (by omega)] at h1
    simpa using h1
theorem Tx.none {n c : Nat} (h : Tx B (.slice none n c) L w) : n = 0 ∧ c = 0 ∧ L = [] := by
  rcases h.2 with ⟨e, q⟩ | ⟨g, cap, cur, e, _⟩
  · simp only [Value.slice.injEq] at e
    exact ⟨e.2.1, e.2.2, List.eq_nil_of_length_eq_zero q⟩
  · simp at e
theorem Tx.form (h : Tx B v L w) : ∃ ga c, v = .slice ga L.length c ∧ L.length ≤ c ∧ c ≤ maxLen := owns_form h
theorem tx_blk {T : TypeId} {t : Nat} {l : List Value} (h : Tx B v L w) (k : Lc T t l w) (hT : 3 ≠ T) : some t ≠ v.ownBlock := by
  intro q
  rcases h.2 with ⟨rfl, _⟩ | ⟨g, cap, cur, rfl, _, hg, _⟩
  · cases q
  · simp only [Value.ownBlock, Option.some.injEq] at q
    subst q
    unfold Lc at k
    rw [k] at hg
    simp only [Option.some.injEq, Obj.cells.injEq] at hg
    exact hT hg.2.1.symm
theorem tx_map {b : Nat} {m : Int → Option Value} (h : Tx B v L w) (k : Mp b m w) : some b ≠ v.ownBlock := by
  intro q
  rcases h.2 with ⟨rfl, _⟩ | ⟨g, cap, cur, rfl, _, hg, _⟩
  · cases q
  · simp only [Value.ownBlock, Option.some.injEq] at q
    subst q
    obtain ⟨es, cl, hb, _⟩ := k
    rw [hb] at hg
    cases hg
/-- The marks, the text and the lines that are laid out anew. -/
structure Bl (w : World) (t b : Nat) (f : Mf) (va : Value) (L : List Int) (vo : Value) (O : List Int) (W : World) : Prop where
  mm : Mk t b f W
  kp : Kp w W
  hb : w.heap.size ≤ b
  tx : Tx w.heap.size va L W
  out : Tx w.heap.size vo O W
  off : vo.ownBlock = none ∨ va.ownBlock ≠ vo.ownBlock
variable {t b : Nat} {f f' : Mf} {va vo vo' : Value} {X : List Int}
theorem Bl.kp_ (h : Bl w t b f va L vo O W) (k : Kp W W1) : Bl w t b f va L vo O W1 := ⟨h.mm.kp k, kp_trans h.kp k, h.hb, h.tx.kp k, h.out.kp k, h.off⟩
theorem Bl.app (h : Bl w t b f va L vo O W) (ho : W1.ownsRow w.heap.size 3 1 vo' (O.length + X.length) (zs O ++ zs X)) (hg : W.grownBy W1 vo.ownBlock) (hat : vo'.ownBlock = vo.ownBlock ∨ vo'.ownBlock = some W.heap.size) : Bl w t b f va L vo' (O ++ X) W1 := by
  refine ⟨⟨?_, ?_, h.mm.dom⟩, ?_, h.hb, World.ownsRow.kept h.tx hg ?_, ?_, ?_⟩
  · exact h.mm.box.heap (hg.block _ h.mm.box.lt (tx_blk h.out h.mm.box (by decide)))
  · exact h.mm.map.heap (hg.block _ h.mm.map.lt (tx_map h.out h.mm.map))
  · exact ⟨hg.os.trans h.kp.os, hg.tape.trans h.kp.tape, hg.output.trans h.kp.output, Nat.le_trans h.kp.size hg.size, fun k hk => (hg.block k (Nat.lt_of_lt_of_le hk h.kp.size) fun e => by have := (World.ownsRow.lt h.out k e.symm).1; omega).trans (h.kp.block k hk)⟩
  · rcases h.off with q | q
    · rw [q]; cases va.ownBlock <;> simp
    · exact .inr q
  · unfold Tx; rw [zs_app, List.length_append]; exact ho
  · rcases hat with q | q
    · rw [q]; exact h.off
    · right
      rw [q]
      intro e
      have := (World.ownsRow.lt h.tx _ e).2
      omega
theorem Bl.onM (h : Bl w t b f va L vo O W) (hm : Mk t b f' W1) (hf : Fr (On b) W W1) : Bl w t b f' va L vo O W1 :=
  ⟨hm, Fr.kpn (n := 0) h.kp hf h.hb, h.hb, row_fr h.tx hf (fun j hj q => tx_map h.tx h.mm.map (by rw [hj, q])), row_fr h.out hf (fun j hj q => tx_map h.out h.mm.map (by rw [hj, q])), h.off⟩
end
section
variable {ops : Array Oper} {rest : List Oper} {o : Oper} {ac : Act} {Q : Exit → Act → World → Prop}
variable {w W : World} {t b : Nat} {f : Mf} {va vo : Value} {L O : List Int}
/-- Lines are laid behind those that are there. -/
theorem wpl_app {K : Nat} (hgd : o.guard = none) (s x : Operand) (ho : o.op = .call { callee := .builtin .append, args := #[s, x], argTypes := #[48, 48] })
    (h : Bl w t b f va L vo O W) (hK : O.length = K) (hs : ac.eval s = vo) {sa : Option Addr} {m c : Nat} (hx : ac.eval x = .slice sa m c) (X : List Int) (hX : X.length = m) (hn : sa = none → m = 0 ∧ c = 0)
    (hc : ∀ ad, sa = some ad → ∀ j u, (zs X)[j]? = some u → W.cell? (ad.add j) = some u) (hl : K + m ≤ 10000)
    (k : ∀ go cap W1 O1, O1 = O ++ X → O1.length = K + m → K + m ≤ cap → cap ≤ 2 ^ 63 - 1 → Bl w t b f va L (.slice go (K + m) cap) O1 W1 → wpList Try.prog ops Q rest (ac.put o.dst (.slice go (K + m) cap)) W1) : wpList Try.prog ops Q (o :: rest) ac W := by
  obtain ⟨i9, hi9, z0, z1, z2⟩ := info_parts infoInt
  subst hX
  subst hK
  have hm9 : O.length + X.length ≤ maxLen := by unfold maxLen; omega
  cases sa with
  | some ad =>
    refine wpList_append_own_at W hgd s x 48 ho w.heap.size 3 i9 _ 1 8 Try.underlying48 hi9 z0 z1 z2 rfl (by decide) vo O.length (zs O) hs h.out ad X.length c (zs X) hx (by rw [zs_len]; omega) (hc ad rfl) (zs_one X) hm9 (by omega) h.kp.size ?_
    intro v' w' q1 q2 _ q4
    have hb := h.app q1 q2 q4
    obtain ⟨go, cap, rfl, e1, e2⟩ := hb.out.form
    rw [List.length_append] at hb e1 ⊢
    exact k go cap w' _ rfl List.length_append e1 e2 hb
  | none =>
    obtain ⟨h0, rfl⟩ := hn rfl
    obtain rfl : X = [] := List.eq_nil_of_length_eq_zero h0
    have hb : Bl w t b f va L vo (O ++ []) W := by rw [List.append_nil]; exact h
    refine wpList_append_own_none hgd s x 48 ho w.heap.size 3 i9 1 Try.underlying48 hi9 vo O.length (zs O) hs h.out (by rw [hx]; rfl) ?_
    obtain ⟨go, cap, rfl, e1, e2⟩ := h.out.form
    exact k go cap W _ rfl (by simp) e1 e2 hb
end
theorem add2 (g o j : Nat) : (⟨g, o, none⟩ : Addr).add j = ⟨g, o + j, none⟩ := by unfold Addr.add; split <;> simp_all
section
variable {B n c : Nat} {ga : Option Addr} {L : List Int} {W : World}
theorem zs_at {L : List Int} {j : Nat} {u : Value} (h : (zs L)[j]? = some u) : ∃ x, L[j]? = some x ∧ u = .int .i64 x := by
  unfold zs at h
  rw [List.getElem?_map] at h
  obtain ⟨x, h1, h2⟩ := Option.map_eq_some_iff.1 h
  exact ⟨x, h1, h2.symm⟩
theorem tx_take (h : Tx B (.slice ga n c) L W) (m : Nat) : ∀ ad, ga = some ad → ∀ j u, (zs (L.take m))[j]? = some u → W.cell? (ad.add j) = some u := by
  intro ad ha j u hj
  obtain ⟨x, h1, rfl⟩ := zs_at hj
  have hlt : j < m := by
    rcases Nat.lt_or_ge j m with q | q
    · exact q
    · rw [List.getElem?_take, if_neg (by omega)] at h1; cases h1
  rw [List.getElem?_take_of_lt hlt] at h1
  obtain ⟨g, e, hc⟩ := h.at_ h1
  rw [e, Option.some.injEq] at ha
  subst ha
  rw [addr_add]
  exact hc
theorem tx_sub (h : Tx B (.slice ga n c) L W) (hn : n = L.length) (hnc : n ≤ c) (lo m : Nat) : ∀ ad, (if c = lo then ga else Option.map (fun x => x.add lo) ga) = some ad → ∀ j u, (zs ((L.drop lo).take m))[j]? = some u → W.cell? (ad.add j) = some u := by
  intro ad ha j u hj
  obtain ⟨x, h1, rfl⟩ := zs_at hj
  have hlt : j < m := by
    rcases Nat.lt_or_ge j m with q | q
    · exact q
    · rw [List.getElem?_take, if_neg (by omega)] at h1; cases h1
  rw [List.getElem?_take_of_lt hlt, List.getElem?_drop] at h1
  obtain ⟨g, e, hc⟩ := h.at_ h1
  have hl := (List.getElem?_eq_some_iff.1 h1).1
  rw [if_neg (by omega), e] at ha
  simp only [Option.map_some, Option.some.injEq] at ha
  subst ha
  rw [addr_add, add2]
  exact hc
theorem tx_new (x : Int) (w : World) : ∀ ad, some (⟨w.heap.size, 0, none⟩ : Addr) = some ad → ∀ j u, (zs [x])[j]? = some u → (w.alloc (.cells #[.int .i64 x] 3)).cell? (ad.add j) = some u := by
  intro ad ha j u hj
  obtain rfl : (⟨w.heap.size, 0, none⟩ : Addr) = ad := by simpa using ha
  rw [addr_add, (Lc.new w [.int .i64 x] 3).cell]
  exact hj
end
end Go.Proofs.Ytmceophmdkcgcaa
/- Lines told apart: tagged. -/
namespace Go.Proofs.Ytmceophmdkcgcaa
open Go.ChangeShapes Go.WideShapes Go.ChangeAt Go.RowKit Go.Maps Go.MapKept
set_option linter.unusedVariables false
set_option linter.unusedSimpArgs false
def tg (n : Nat) : List Int := (List.range n).map fun (i : Nat) => (i : Int)
theorem tg_len (n : Nat) : (tg n).length = n := by simp [tg]
theorem tg_succ (n : Nat) : tg (n + 1) = tg n ++ [(n : Int)] := by simp [tg, List.range_succ]
theorem tg_at (n i : Nat) : (tg n)[i]? = if i < n then some (i : Int) else none := by
  unfold tg
  rw [List.getElem?_map]
  split
  · rename_i q; rw [List.getElem?_range q]; rfl
  · rename_i q; rw [List.getElem?_eq_none (by simp; omega)]; rfl
set_option maxHeartbeats 8000000 in
set_option maxRecDepth 100000 in
theorem tagged_any (n : Nat) (hn : n ≤ 50) (w : World) : Calls Try.prog 23 #[.int .i64 n] w fun e w' => ∃ v, e = .returned v ∧ Hid (Tx w.heap.size v (tg n) w' ∧ Kp w w') := by
  obtain ⟨i9, hi9, z0, z1, z2⟩ := info_parts infoInt
  go_enter Try.func23, Try.ntmps23
  go_wp2_with fail
  go_loopw [3, 4] (fun v3 v4 wr => ∃ (i : Nat) (a : Option Addr) (c : Nat), i ≤ n ∧ v4 = .int .i64 i ∧ v3 = .slice a i c ∧ Hid (wr.ownsRow w.heap.size 3 1 (.slice a i c) i (zs (tg i)) ∧ Kp w wr)) (fun _ v4 _ => n - (intOf v4).toNat)
  case atStart => exact ⟨0, none, 0, Nat.zero_le _, rfl, rfl, World.ownsRow_nil _ _ _ _, Below.refl _ _⟩
  case round =>
    obtain ⟨i, va, vc, hi, rfl, rfl, HI⟩ := hrel
    by_cases q : i < n
    · have d1 : decide ((i : Int) < (n : Int)) = true := decide_eq_true (by omega)
      have d2 : decide (i < n) = true := decide_eq_true (by omega)
      obtain ⟨bt, hbt⟩ : ∃ bt, wr.heap.size = bt := ⟨_, rfl⟩
      obtain ⟨W1, hW1⟩ : ∃ W1, wr.alloc (.cells #[.int .i64 (i : Int)] 3) = W1 := ⟨_, rfl⟩
      have HA : Hid (W1.ownsRow w.heap.size 3 1 (.slice va i vc) i (zs (tg i)) ∧ (∀ j u, ([.int .i64 (i : Int)] : List Value)[j]? = some u → W1.cell? ((⟨bt, 0, none⟩ : Addr).add j) = some u) ∧ w.heap.size ≤ W1.heap.size ∧ W1.heap.size = bt + 1 ∧ Kp w W1) := by
        have kk := kp_alloc wr (.cells #[.int .i64 (i : Int)] 3)
        rw [hW1] at kk
        refine ⟨row_kp HI.out.1 kk, ?_, Nat.le_trans HI.out.2.size kk.size, by rw [← hW1, ← hbt]; exact alloc_size _ _, kp_trans HI.out.2 kk⟩
        intro j u hj
        rw [← hW1, ← hbt, addr_add, (Lc.new wr [.int .i64 (i : Int)] 3).cell]
        exact hj
      have HE : Hid (∀ g' cap' w2, w2.ownsRow w.heap.size 3 1 (.slice (some ⟨g', 0, none⟩) (i + 1) cap') (i + 1) (zs (tg i) ++ [.int .i64 (i : Int)]) → W1.grownBy w2 (Value.slice va i vc).ownBlock → w2.ownsRow w.heap.size 3 1 (.slice (some ⟨g', 0, none⟩) (i + 1) cap') (i + 1) (zs (tg (i + 1))) ∧ Kp w w2) := fun g' cap' w2 r1 r2 => by
        rw [tg_succ, zs_app]
        refine ⟨r1, ?_⟩
        have := HA.out.2.2.2.2
        exact ⟨r2.os.trans this.os, r2.tape.trans this.tape, r2.output.trans this.output, Nat.le_trans this.size r2.size, fun k hk => (r2.block k (Nat.lt_of_lt_of_le hk this.size) fun e => by have := (HA.out.1.lt k e.symm).1; omega).trans (this.block k hk)⟩
      clear HI
      go_wp2_with (at_builtin; refine wpList_append_lies _ rfl (.tmp 10) (.tmp 12) 48 rfl w.heap.size 3 i9 _ 1 8 Try.underlying48 hi9 z0 z1 z2 rfl (by decide) (.slice va i vc) i (zs (tg i)) rfl HA.out.1 ⟨bt, 0, none⟩ 1 1 [.int .i64 (i : Int)] rfl rfl HA.out.2.1 (by intro u hu; simp only [List.mem_singleton] at hu; subst hu; rfl) (by omega) (by unfold maxLen; omega) (by omega) HA.out.2.2.1 (bt + 1) HA.out.2.2.2.1 ?_; intro g' cap' w2 r1' r2' r3' r4'; have HI2 : Hid _ := HE.out g' cap' w2 r1' r2'; clear r1' r2' r3' r4')
      clear HA HE hW1 hbt
      go_roundw
      case rel => exact ⟨i + 1, some ⟨g', 0, none⟩, cap', by omega, by go_num, rfl, HI2.out⟩
      case measure => simp only [intOf]; omega
    · obtain rfl : i = n := by omega
      have d1 : decide ((i : Int) < (i : Int)) = false := by simp
      have HX : Hid (Tx w.heap.size (.slice va i vc) (tg i) wr ∧ Kp w wr) := ⟨by unfold Tx; rw [tg_len]; exact HI.out.1, HI.out.2⟩
      clear HI q
      go_wp2_with fail
      go_ret
      exact ⟨_, rfl, HX.out⟩
end Go.Proofs.Ytmceophmdkcgcaa
