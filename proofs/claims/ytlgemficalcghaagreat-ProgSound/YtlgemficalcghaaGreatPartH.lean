/- Texts that the proof of the law stands on: Gw6, Gw7, Gw7b, Gw7c, Gw8, Gw9, Gw10, Gw11, Gw12. -/
import Derived.RangeFuncNested
import Derived.RangeFuncBound
import Derived.RangeFuncCalls
import Derived.RangeFuncLeaves
import Derived.Shelf.Abstract
import Derived.Shelf.RegionOpen
import Derived.WalkKit
import Derived.OwnWalkIn
import Derived.TacticsInMore
import Derived.LoopNIn
import Derived.LoopIn
import Derived.Test.YtlgemficalcghaaGreatPartG
import Derived.Deep.LoopGhost
import Derived.Deep.AppendLies
import Derived.Maps.AppendAt
/- slices.Backward over a list of numbers: what comes, in which order. -/
namespace Go.Proofs.YtlgemficalcghaaGreat
open Go.ChangeShapes Go.WideShapes Go.ChangeAt Go.RowKit Go.Shelf
set_option linter.unusedVariables false
set_option linter.unusedSimpArgs false
attribute [local go_sem] Oper.semAt_some
/-- What has come when k rounds are over: the last ones, with their places. -/
def backs (ks : List Int) (k : Nat) : List (Int × Int) := (List.range k).map fun (j : Nat) => ((ks.length : Int) - 1 - j, ks[ks.length - 1 - j]?.getD 0)
theorem backs_succ (ks : List Int) (k : Nat) : backs ks (k + 1) = backs ks k ++ [((ks.length : Int) - 1 - k, ks[ks.length - 1 - k]?.getD 0)] := by simp [backs, List.range_succ]
theorem backs_len (ks : List Int) (k : Nat) : (backs ks k).length = k := by simp [backs]
theorem backs_all (ks : List Int) : (backs ks ks.length).map (·.2) = ks.reverse := by
  apply List.ext_getElem
  · simp [backs]
  · intro i h1 h2
    have : i < ks.length := by simpa using h2
    simp [backs, List.getElem_reverse, List.getElem?_eq_getElem (show ks.length - 1 - i < ks.length by omega)]
/-- What lay below 'n' and one block are as they were. -/
def Kpb (n b : Nat) (W W' : World) : Prop := W.heap.size ≤ W'.heap.size ∧ ∀ k, k < W.heap.size → (k < n ∨ k = b) → W'.heap[k]? = W.heap[k]?
theorem Kpb.trans {n b : Nat} {A B C : World} (h : Kpb n b A B) (k : Kpb n b B C) : Kpb n b A C := ⟨Nat.le_trans h.1 k.1, fun j hj hq => (k.2 j (Nat.lt_of_lt_of_le hj h.1) hq).trans (h.2 j hj hq)⟩
theorem Kpb.refl (n b : Nat) (A : World) : Kpb n b A A := ⟨Nat.le_refl _, fun _ _ _ => rfl⟩
theorem Kpb.put {n b l : Nat} {W : World} {o : Obj} (hn : n ≤ l) (hb : b < l) : Kpb n b W (W.putObj l o) :=
  ⟨by simp, fun k _ hq => World.putObj_heap_other (by omega)⟩
theorem Kpb.cell {n b : Nat} {W W' : World} (h : Kpb n b W W') {p : Addr} {u : Value} (hc : W.cell? p = some u) (hp : p.block < n ∨ p.block = b) : W'.cell? p = some u := by
  rw [World.cell?_of_block (h.2 _ ?_ hp)]
  · exact hc
  · rcases Nat.lt_or_ge p.block W.heap.size with q | q
    · exact q
    · simp [World.cell?, Array.getElem?_eq_none q] at hc
theorem backward_any (a : Option Addr) (len cap : Nat) (w : World) : Calls Tryz.prog 39 #[.slice a len cap] w fun e w' => e = .returned (.func (.func 51) #[] #[.pointer (some ⟨w.heap.size, 0, none⟩)]) ∧ w' = w.alloc (.cells #[.slice a len cap] 87) := by
  have hmf : ∀ (fn : Fn) (first cap : Array Value) (w : World), (Instr.makeFunc fn first cap).run Tryz.prog w = .ok (.func fn first cap) w := fun _ _ _ _ => rfl
  go_enter Tryz.func39, Tryz.ntmps39
  go_wp2
  go_ret
  exact ⟨rfl, rfl⟩
set_option maxRecDepth 100000 in
set_option maxHeartbeats 2000000 in
theorem back1_in (F : Fence) (n : Nat) (hF : F.fn 51) (hro : F.round = none) (hn : 1 ≤ n) (l Bs n₀ b off cap : Nat) (ks : List Int) (hlen : ks.length ≤ 9223372036854775807) (hcap : ks.length ≤ cap ∧ cap ≤ 9223372036854775807) (hb : b < n₀) (J Jx : List (Int × Int) → World → Prop)
    (hY : ∀ pre x W, J pre W → pre.length < ks.length → YieldAt F (n - 1) Tryz.prog l #[.int .i64 x.1, .int .i64 x.2] W fun e W' =>
      (e = .returned (.bool true) ∧ J (pre ++ [x]) W' ∧ Kpb n₀ Bs W W') ∨ (e = .returned (.bool false) ∧ Jx (pre ++ [x]) W'))
    (W : World) (hBs : W.cell? ⟨Bs, 0, none⟩ = some (.slice (some ⟨b, off, none⟩) ks.length cap)) (hc : ∀ j, j < ks.length → W.cell? ⟨b, off + j, none⟩ = some (.int .i64 (ks[j]?.getD 0))) (h0 : J [] W) :
    CallsIn F n Tryz.prog 51 #[.func (.yield l) #[] #[], .pointer (some ⟨Bs, 0, none⟩)] W fun e W' => (∃ v, e = .returned v) ∧
      ((∃ ys, ys = backs ks ks.length ∧ J ys W') ∨ (∃ pre, True ∧ Jx pre W')) := by
  obtain ⟨N, hN⟩ : ∃ N, ks.length = N := ⟨_, rfl⟩
  have HN : Hid (ks.length = N) := hN
  rw [hN] at hlen hcap hY hBs hc ⊢
  refine callsIn_of_wp Tryz.func51 rfl hF ?_ hro
  simp only [Tryz.ntmps51, List.size_toArray, List.length_cons, List.length_nil, Nat.reduceAdd, Nat.reduceSub, Array.replicate_succ, Array.replicate_zero, List.push_toArray, List.append_toArray, List.nil_append, List.cons_append]
  have HB : Hid (W.cell? ⟨Bs, 0, none⟩ = some (.slice (some ⟨b, off, none⟩) N cap)) := hBs
  clear hN
  gi_wp2
  gi_loopw [3] (fun i wr => ∃ k : Nat, k ≤ N ∧ i = .int .i64 ((N : Int) - 1 - k) ∧ Hid (J (backs ks k) wr ∧ Kpb n₀ Bs W wr))
    (fun i _ => (intOf i + 1).toNat)
  case atStart => exact ⟨0, Nat.zero_le _, by simp, h0, Kpb.refl _ _ _⟩
  case round =>
    obtain ⟨k, hk, rfl, HJ⟩ := hrel
    clear hBs
    have hBs : wr.cell? ⟨Bs, 0, none⟩ = some (.slice (some ⟨b, off, none⟩) N cap) := HJ.out.2.cell HB.out (.inr rfl)
    by_cases hlt : k < N
    · obtain ⟨i, hi⟩ : ∃ i : Nat, N - 1 - k = i := ⟨_, rfl⟩
      have hiN : i < N := by omega
      have e1 : (N : Int) - 1 - k = (i : Int) := by omega
      have hci := HJ.out.2.cell (hc i hiN) (.inl hb)
      obtain ⟨y, hy0⟩ : ∃ y, ks[i]?.getD 0 = y := ⟨_, rfl⟩
      rw [hy0] at hci
      have HE : Hid (backs ks (k + 1) = backs ks k ++ [((i : Int), y)]) := by
        have := backs_succ ks k
        rw [HN.out, e1, hi, hy0] at this
        exact this
      obtain ⟨fn, tmps, assign, body, hy, hR⟩ := hY _ ((i : Int), y) wr HJ.out.1 (by rw [backs_len]; exact hlt)
      dsimp only at hy
      rw [e1]
      clear hy0 hi hc
      gi_wp2
      refine hR.mono ?_
      rintro e W3 (⟨rfl, hJ3, hk3⟩ | ⟨rfl, hJx3⟩)
      · gi_wp2
        go_roundw
        case rel => exact ⟨k + 1, by omega, by rw [show ((i : Int) - 1) = (N : Int) - 1 - (k + 1 : Nat) by omega], by rw [HE.out]; exact hJ3, HJ.out.2.trans hk3⟩
        case measure => simp only [intOf]; omega
      · gi_wp2
        refine bodyPost_ret (results_none rfl _ _ _) rfl ?_
        exact ⟨⟨_, rfl⟩, .inr ⟨_, trivial, hJx3⟩⟩
    · obtain rfl : k = N := by omega
      have e1 : (k : Int) - 1 - k = -1 := by omega
      rw [e1]
      gi_wp2
      go_end0
      exact ⟨⟨_, rfl⟩, .inl ⟨_, rfl, HJ.out.1⟩⟩
end Go.Proofs.YtlgemficalcghaaGreat
/- What codeOf keeps: the nodes that wait, marks of the loops that are over. -/
namespace Go.Proofs.YtlgemficalcghaaGreat
open Go.ChangeShapes Go.WideShapes Go.ChangeAt Go.RowKit Go.Shelf
set_option linter.unusedVariables false
set_option linter.unusedSimpArgs false
def PT.size : PT → Nat
  | .seq a b => a.size + b.size + 1
  | .alt a b => a.size + b.size + 1
  | .many _ _ _ k => k.size + 1
  | .group _ k => k.size + 1
  | _ => 1
def sizes : List PT → Nat
  | [] => 0
  | t :: ts => t.size + sizes ts
theorem sizes_append (us bs : List PT) : sizes (us ++ bs) = sizes us + sizes bs := by
  induction us with
  | nil => simp [sizes]
  | cons a us ih => simp [sizes, ih, Nat.add_assoc]
theorem size_pos (t : PT) : 1 ≤ t.size := by cases t <;> simp [PT.size]
theorem size_seqOf (ts : List PT) : sizes ts < (seqOf ts).size := by
  induction ts with
  | nil => simp [sizes, seqOf, PT.size]
  | cons t ts ih => simp only [sizes, seqOf, PT.size]; omega
/-- These nodes are these trees. -/
def Trees (L : List Nq) (n : Nat) : List Int → List PT → Prop
  | [], [] => True
  | a :: r, t :: ts => (∃ m, m ≤ n ∧ toT L m a = some t) ∧ Trees L n r ts
  | _, _ => False
theorem Trees.append {L : List Nq} {n : Nat} {us bs : List Int} {xs ys : List PT} (h : Trees L n us xs) (k : Trees L n bs ys) : Trees L n (us ++ bs) (xs ++ ys) := by
  induction us generalizing xs with
  | nil =>
    cases xs with
    | nil => exact k
    | cons _ _ => exact h.elim
  | cons a us ih =>
    cases xs with
    | nil => exact h.elim
    | cons x xs => exact ⟨h.1, ih h.2⟩
theorem mapT_trees {L : List Nq} {n m : Nat} (hm : m ≤ n) {ks : List Int} {ts : List PT} (h : mapT (toT L m) ks = some ts) : Trees L n ks ts := by
  induction ks generalizing ts with
  | nil => simp only [mapT, Option.some.injEq] at h; subst h; trivial
  | cons a ks ih =>
    simp only [mapT] at h
    cases ha : toT L m a with
    | none => rw [ha] at h; cases h
    | some t =>
      rw [ha, Option.bind_some] at h
      obtain ⟨us, hu, rfl⟩ := Option.map_eq_some_iff.1 h
      exact ⟨⟨m, hm, ha⟩, ih hu⟩
theorem Trees.len {L : List Nq} {n : Nat} {us : List Int} {xs : List PT} (h : Trees L n us xs) : us.length ≤ sizes xs := by
  induction us generalizing xs with
  | nil => simp
  | cons a us ih =>
    cases xs with
    | nil => exact h.elim
    | cons x xs =>
      have := ih h.2
      have := size_pos x
      simp only [List.length_cons, sizes]
      omega
/-- Marks of loops over a function that are over. -/
def Marks (B : Nat) (ds : List Deferred) (W : World) : Prop := ∃ Ds : List Nat, ds = Ds.map (fun D => { target := .collected D, args := #[] }) ∧ Ds.Nodup ∧ ∀ D ∈ Ds, B ≤ D ∧ W.heap[D]? = some (.deferred (some []))
/-- A block from 'B' on that holds no cells. -/
def Nc (B : Nat) (W : World) (k : Nat) : Prop := B ≤ k ∧ ∀ c e f, W.heap[k]? ≠ some (.cells c e f)
theorem marks_leave {n : Nat} {fn : Func} {tmps : Array Value} {R : Ending → World → Prop} {B : Nat} {u : FrameMode} (hu : u ≠ .run) : ∀ {ds : List Deferred} {W : World}, Marks B ds W → (∀ W', Fr (Nc B W) W W' → LeavesIn Fence.wide n Tryz.prog fn tmps R [] u W') → LeavesInM Fence.wide n Tryz.prog fn tmps R ds u W := by
  intro ds
  induction ds with
  | nil => intro W h k; exact k W (Fr.refl _ _)
  | cons d ds ih =>
    intro W h k
    obtain ⟨Ds, e, hn, hm⟩ := h
    cases Ds with
    | nil => cases e
    | cons D Ds =>
      simp only [List.map_cons, List.cons.injEq] at e
      obtain ⟨rfl, rfl⟩ := e
      obtain ⟨hB, hD⟩ := hm D (by simp)
      have hlt : D < W.heap.size := (Array.getElem?_eq_some_iff.1 hD).1
      have hput : ∀ j, j ≠ D → (W.putObj D (.deferred none)).heap[j]? = W.heap[j]? := fun j hj => World.putObj_heap_other hj
      have hfr : Fr (Nc B W) W (W.putObj D (.deferred none)) := ⟨rfl, rfl, rfl, by simp, fun j hj hS => hput j fun q => hS ⟨by omega, fun c e f => by rw [q, hD]; simp⟩⟩
      refine ⟨hu, .inl ⟨D, _, rfl, run_takeDeferred hD, ih ⟨Ds, rfl, (List.nodup_cons.1 hn).2, fun D' hD' => ?_⟩ fun W' hW' => ?_⟩⟩
      · have hne : D' ≠ D := fun q => (List.nodup_cons.1 hn).1 (q ▸ hD')
        obtain ⟨q1, q2⟩ := hm D' (List.mem_cons_of_mem _ hD')
        exact ⟨q1, (hput D' hne).trans q2⟩
      · refine k W' (hfr.trans' hW' fun j hj hq => ⟨hq.1, fun c e f hc => ?_⟩)
        have hne : j ≠ D := fun q => by rw [q, hD] at hc; cases hc
        exact hq.2 c e f ((hput j hne).trans hc)
section
variable {w0 : World} {wb : Nat} {v cv cv1 cv2 u lv : Value} {L : List Nq} {x : List Ins × Nat} {w w1 w2 : World} {b p B : Nat} {t : TypeId} {S : Nat → Prop}
theorem Wr.nc (h : Wr w0 wb v L x cv w) (hB : w0.heap.size ≤ B) (f : Fr (Nc B w) w w1) : Wr w0 wb v L x cv w1 :=
  h.off f fun j hj => ⟨by have := hj.1; omega, fun e => hj.2 _ _ _ (e ▸ h.st), fun e => by
    rcases h.row.2 with ⟨q, _⟩ | ⟨g, cap, cur, rfl, _, hg, _⟩
    · rw [q] at e; cases e
    · simp only [Value.ownBlock, Option.some.injEq] at e
      exact hj.2 _ _ _ (e ▸ hg)⟩
theorem Adw.nc (h : Adw wb cv w cv1 w1) (f : Fr (Nc w.heap.size w1) w1 w2) : Adw wb cv w cv1 w2 :=
  ⟨h.fr.trans' f fun k hk q => absurd q.1 (by omega), h.own⟩
theorem Fr.ncf (h : Fr S w w1) (f : Fr (Nc w.heap.size w1) w1 w2) : Fr S w w2 := h.trans' f fun k hk q => absurd q.1 (by omega)
theorem Marks.fr {ds : List Deferred} (h : Marks B ds w) (f : Fr S w w1) (hS : ∀ j, S j → ∃ c e g, w.heap[j]? = some (.cells c e g)) : Marks B ds w1 := by
  obtain ⟨Ds, e, hn, hm⟩ := h
  refine ⟨Ds, e, hn, fun D hD => ⟨(hm D hD).1, ?_⟩⟩
  have := (hm D hD).2
  rw [f.block D (Array.getElem?_eq_some_iff.1 this).1 fun q => ?_]
  · exact this
  · obtain ⟨c, e, g, hc⟩ := hS D q
    rw [this] at hc; cases hc
theorem Marks.wr {ds : List Deferred} (h : Marks B ds w) (hw : Wr w0 wb v L x cv w) (f : Fr (Wb wb cv) w w1) : Marks B ds w1 :=
  h.fr f fun j hj => by
    rcases hj with rfl | hj
    · exact ⟨_, _, _, hw.st⟩
    · rcases hw.row.2 with ⟨q, _⟩ | ⟨g, cap, cur, rfl, _, hg, _⟩
      · rw [q] at hj; cases hj
      · simp only [Value.ownBlock, Option.some.injEq] at hj
        exact ⟨_, _, _, hj ▸ hg⟩
theorem Marks.add {ds : List Deferred} (h : Marks B ds w1) {D : Nat} (hD : w1.heap[D]? = some (.deferred (some []))) (hB : B ≤ D) (hn : ∀ d ∈ ds, d.target ≠ .collected D) : Marks B ({ target := .collected D, args := #[] } :: ds) w1 := by
  obtain ⟨Ds, rfl, hn', hm⟩ := h
  refine ⟨D :: Ds, rfl, List.nodup_cons.2 ⟨fun q => hn _ (List.mem_map.2 ⟨D, q, rfl⟩) rfl, hn'⟩, fun D' hD' => ?_⟩
  rcases List.mem_cons.1 hD' with rfl | q
  · exact ⟨hB, hD⟩
  · exact hm D' q
theorem Marks.lt {ds : List Deferred} (h : Marks B ds w) {d : Deferred} (hd : d ∈ ds) {D : Nat} (e : d.target = .collected D) : D < w.heap.size := by
  obtain ⟨Ds, rfl, hn', hm⟩ := h
  obtain ⟨D', hD', rfl⟩ := List.mem_map.1 hd
  simp only [Target.collected.injEq] at e
  subst e
  exact (Array.getElem?_eq_some_iff.1 (hm D' hD').2).1
end
/-- Numbers as they lie in memory. -/
def intv (l : List Int) : List Value := l.map fun n => Value.int .i64 n
/-- The list of nodes that wait, the next one first, in a box. -/
structure Wait (B0 : Nat) (w0 : World) (wb : Nat) (cv : Value) (bq : Nat) (vq : Value) (rs : List Int) (w : World) : Prop where
  box : Bx bq vq 87 w
  ge : B0 ≤ bq
  off : Offw w0 wb cv bq
  row : w.ownsRow B0 3 1 vq rs.length (intv rs.reverse)
  roff : ∀ j, vq.ownBlock = some j → Offw w0 wb cv j ∧ j ≠ bq
section
variable {B0 : Nat} {w0 : World} {wb : Nat} {v cv cv1 cv2 u lv vq : Value} {L : List Nq} {x : List Ins × Nat} {w w1 w2 : World} {bq b p B : Nat} {t : TypeId} {S : Nat → Prop} {rs : List Int}
theorem Wait.adv (h : Wait B0 w0 wb cv bq vq rs w) (a : Adw wb cv w cv1 w1) : Wait B0 w0 wb cv1 bq vq rs w1 :=
  ⟨h.box.fr a.fr h.off.not, h.ge, h.off.adv a h.box.lt, row_fr h.row a.fr fun j hj => (h.roff j hj).1.not, fun j hj => ⟨(h.roff j hj).1.adv a (h.row.lt j hj).2, (h.roff j hj).2⟩⟩
theorem Wait.kp (h : Wait B0 w0 wb cv bq vq rs w) (k : Kp w w1) : Wait B0 w0 wb cv bq vq rs w1 :=
  ⟨h.box.kp k, h.ge, h.off, row_kp h.row k, h.roff⟩
end
end Go.Proofs.YtlgemficalcghaaGreat
/- codeOf's own memory from step to step. -/
namespace Go.Proofs.YtlgemficalcghaaGreat
open Go.ChangeShapes Go.WideShapes Go.ChangeAt Go.RowKit Go.Shelf
set_option linter.unusedVariables false
set_option linter.unusedSimpArgs false
/-- All that codeOf has at hand. -/
structure Cs (w0 : World) (wb : Nat) (v : Value) (L : List Nq) (cv : Value) (w : World) (x : List Ins × Nat) (cvc : Value) (bq : Nat) (vq : Value) (rs : List Int) (ds : List Deferred) (W : World) : Prop where
  wr : Wr w0 wb v L x cvc W
  ad : Adw wb cv w cvc W
  wt : Wait w.heap.size w0 wb cvc bq vq rs W
  ma : Marks w.heap.size ds W
section
variable {w0 : World} {wb : Nat} {v cv cvc cv1 vq : Value} {L : List Nq} {x x' : List Ins × Nat} {w W W1 : World} {bq : Nat} {rs : List Int} {ds : List Deferred}
theorem Marks.kp {B : Nat} (h : Marks B ds W) (k : Kp W W1) : Marks B ds W1 := by
  obtain ⟨Ds, e, hn, hm⟩ := h
  refine ⟨Ds, e, hn, fun D hD => ⟨(hm D hD).1, ?_⟩⟩
  have := (hm D hD).2
  rw [k.block D (Array.getElem?_eq_some_iff.1 this).1]; exact this
theorem Cs.kp (h : Cs w0 wb v L cv w x cvc bq vq rs ds W) (k : Kp W W1) : Cs w0 wb v L cv w x cvc bq vq rs ds W1 :=
  ⟨h.wr.kpp k, h.ad.trans (Adw.kp _ _ k), h.wt.kp k, h.ma.kp k⟩
theorem Cs.adv (h : Cs w0 wb v L cv w x cvc bq vq rs ds W) (hw : Wr w0 wb v L x' cv1 W1) (a : Adw wb cvc W cv1 W1) : Cs w0 wb v L cv w x' cv1 bq vq rs ds W1 :=
  ⟨hw, h.ad.trans a, h.wt.adv a, h.ma.wr h.wr a.fr⟩
theorem row_pop {B e : Nat} {g R qc : Nat} {l : List Value} {y : Value} (h : W.ownsRow B e 1 (.slice (some ⟨g, 0, none⟩) (R + 1) qc) (R + 1) (l ++ [y])) : W.ownsRow B e 1 (.slice (some ⟨g, 0, none⟩) R qc) R l := by
  have hl := h.1
  simp only [List.length_append, List.length_cons, List.length_nil] at hl
  refine ⟨by omega, ?_⟩
  rcases h.2 with ⟨q, _⟩ | ⟨g', cap, cur, e', hb, hg, h1, h2, h3, h4⟩
  · cases q
  · injection e' with e1 e2 e3
    subst e3
    refine .inr ⟨g', qc, cur, by rw [e1], hb, hg, by omega, h2, h3, ?_⟩
    rw [Nat.mul_one] at h4
    have := congrArg (List.take R) h4
    rw [List.take_take, Nat.min_eq_left (Nat.le_succ R), List.take_append_of_le_length (by omega)] at this
    rw [Nat.mul_one, this]
    exact List.take_of_length_le (by omega)
theorem Cs.pop {g R qc : Nat} {a : Int} (h : Cs w0 wb v L cv w x cvc bq (.slice (some ⟨g, 0, none⟩) (R + 1) qc) (a :: rs) ds W) (hR : rs.length = R) :
    Cs w0 wb v L cv w x cvc bq (.slice (some ⟨g, 0, none⟩) R qc) rs ds (W.setCell ⟨bq, 0, none⟩ (.slice (some ⟨g, 0, none⟩) R qc)) := by
  have f : Fr (On bq) W (W.setCell ⟨bq, 0, none⟩ (.slice (some ⟨g, 0, none⟩) R qc)) := fr_set bq 0 _ W
  have hgq : g ≠ bq := (h.wt.roff g rfl).2
  refine ⟨h.wr.off f fun j hj => ?_, ⟨h.ad.fr.trans' f fun k hk q => ?_, h.ad.own⟩, ⟨h.wt.box.set _, h.wt.ge, h.wt.off, ?_, fun j hj => h.wt.roff j hj⟩, h.ma.fr f fun j hj => ?_⟩
  · unfold On at hj; subst hj; exact h.wt.off
  · unfold On at q; have := h.wt.ge; omega
  · have hr := h.wt.row
    simp only [List.length_cons, List.reverse_cons, intv, List.map_append, List.map_cons, List.map_nil] at hr
    rw [hR] at hr ⊢
    refine row_fr (row_pop hr) f fun j hj q => ?_
    simp only [Value.ownBlock, Option.some.injEq] at hj
    unfold On at q
    omega
  · unfold On at hj; subst hj; exact ⟨_, _, _, h.wt.box⟩
/-- The waiting list's box is laid anew. -/
theorem Cs.move (h : Cs w0 wb v L cv w x cvc bq vq rs ds W) : Cs w0 wb v L cv w x cvc W.heap.size vq rs ds (W.alloc (.cells #[vq] 87)) := by
  have k := kp_alloc W (.cells #[vq] 87)
  have h' := h.kp k
  have hge : w.heap.size ≤ W.heap.size := h.ad.fr.size
  refine ⟨h'.wr, h'.ad, ⟨alloc_new W _, hge, h.wr.new (Nat.le_refl _), h'.wt.row, fun j hj => ⟨(h.wt.roff j hj).1, ?_⟩⟩, h'.ma⟩
  have := (h.wt.row.lt j hj).2
  omega
/-- At codeOf's end, whichever way. -/
theorem Cs.ends (h : Cs w0 wb v L cv w x cvc bq vq rs ds W) (hle : w0.heap.size ≤ w.heap.size) {n : Nat} {fn : Func} {tmps : Array Value} (hr : ∀ W', (results fn tmps).run Tryz.prog W' = .ok (.tuple #[]) W') :
    LeavesInM Fence.wide n Tryz.prog fn tmps (Laid w0 wb v L cv w (some x)) ds .returning W :=
  marks_leave (by simp) h.ma fun W' hW' => ⟨.tuple #[], hr W', rfl, cvc, h.wr.nc hle hW', h.ad.nc hW'⟩
theorem Cs.fails (h : Cs w0 wb v L cv w x cvc bq vq rs ds W) (f : Fr (Wb wb cvc) W W1) {n : Nat} {fn : Func} {tmps : Array Value} {ch : List PanicEntry} (hc : ch = [{ v := .iface 77 (.agg #[]), recovered := false }]) :
    LeavesInM Fence.wide n Tryz.prog fn tmps (Laid w0 wb v L cv w none) ds (.panicking ch) W1 := by
  subst hc
  exact marks_leave (by simp) (h.ma.wr h.wr f) fun W' hW' => ⟨rfl, (h.ad.fail f).ncf hW'⟩
end
end Go.Proofs.YtlgemficalcghaaGreat
/- codeOf's loop over a node's kids: what a round does. -/
namespace Go.Proofs.YtlgemficalcghaaGreat
open Go.ChangeShapes Go.WideShapes Go.ChangeAt Go.RowKit Go.Shelf
set_option linter.unusedVariables false
set_option linter.unusedSimpArgs false
theorem wpListIn_append_lies {F : Fence} {n : Nat} {P : Program} (w : World) {ops : Array Oper} {rest : List Oper} {o : Oper} {a : Act} {Q : Exit → Act → World → Prop}
    (hg : o.guard = none) (s x : Operand) (t : TypeId) (hop : o.op = Op.call { callee := Callee.builtin Builtin.append, args := #[s, x], argTypes := #[t, t] })
    (base : Nat) (e : TypeId) (i : TypeInfo) (z : Value) (size bytes : Nat) (h1 : P.underlying t = some (.slice e)) (h2 : P.info? e = some i) (h3 : i.zero = some z) (h4 : i.size = size) (h5 : i.bytes = bytes) (h6 : z.cells.size = size) (h7 : 0 < size)
    (v : Value) (k : Nat) (xs : List Value) (hs : a.eval s = v) (hown : w.ownsRow base e size v k xs) (ad : Addr) (m c : Nat) (news : List Value) (hx : a.eval x = .slice (some ad) m c) (hn : news.length = m * size)
    (hc : ∀ j u, news[j]? = some u → w.cell? (ad.add j) = some u) (h1c : ∀ u ∈ news, u.oneCell' = true) (hm : 0 < m) (b1 : k + m ≤ maxLen) (b2 : (k + m) * bytes ≤ 140737488355328) (b3 : base ≤ w.heap.size) (H : Nat) (hH : w.heap.size = H)
    (hK : ∀ g cap w', w'.ownsRow base e size (.slice (some ⟨g, 0, none⟩) (k + m) cap) (k + m) (xs ++ news) → w.grownBy w' v.ownBlock → (v.ownBlock = some g ∨ g = H) → g < w'.heap.size → wpListIn F n P ops Q rest (a.put o.dst (.slice (some ⟨g, 0, none⟩) (k + m) cap)) w') :
    wpListIn F n P ops Q (o :: rest) a w := by
  refine wpListIn_plain hg fun K hK' => ?_
  obtain ⟨g, cap, w', hrun, r1, r2, r3, r4⟩ := run_append_lies (P := P) w t o.type base e i z size bytes h1 h2 h3 h4 h5 h6 h7 v k xs hown ad m c news hn hc h1c hm b1 b2 b3 H hH
  unfold Oper.wpIn
  refine ⟨?_, ?_⟩
  · simp [Oper.about, hop, resolve, Target.leads, Sem.run_pure]
  · rw [Oper.semAt_plain F _ _ (by rw [hop]; intro c hc'; cases hc')]
    simp [execOp, hop, resolve, invoke, builtin, hs, hx, hrun, Result.andThen]
    exact hK' _ _ (hK g cap w' r1 r2 r3 r4)
theorem keepsFrom_of_fr {S : Nat → Prop} {W W' : World} (B : Nat) (f : Fr S W W') (hS : ∀ j, S j → ∃ c e g, W.heap[j]? = some (.cells c e g)) : KeepsFrom B W W' :=
  ⟨f.size, fun k o _ hk ho => (f.block k (Array.getElem?_eq_some_iff.1 hk).1 fun q => by
    obtain ⟨c, e, g, hc⟩ := hS k q
    rw [hc] at hk
    injection hk with hk
    rw [← hk] at ho; cases ho).trans hk⟩
section
variable {w0 : World} {wb : Nat} {v cv cvc cv1 vq : Value} {L : List Nq} {x x' : List Ins × Nat} {w W W1 : World} {bq B : Nat} {rs : List Int} {ds : List Deferred}
theorem Cs.own (h : Cs w0 wb v L cv w x cvc bq vq rs ds W) {row : Option Nat} (hg : W.grownBy W1 row) (hr : ∀ r, row = some r → B ≤ r ∧ ∃ o : Obj, W.heap[r]? = some o ∧ o.isCells = false) (hB : w.heap.size ≤ B) (hle : w0.heap.size ≤ w.heap.size) (hm : ∀ d ∈ ds, ∀ D, d.target = .collected D → D < B) :
    Cs w0 wb v L cv w x cvc bq vq rs ds W1 := by
  have f : Fr (fun k => row = some k) W W1 := ⟨hg.os, hg.tape, hg.output, hg.size, fun k hk q => hg.block k hk fun e => q e.symm⟩
  have nc : ∀ {j c e g}, W.heap[j]? = some (.cells c e g) → row ≠ some j := fun hj q => by
    obtain ⟨_, o, ho, hc⟩ := hr _ q
    rw [hj] at ho
    injection ho with ho
    rw [← ho] at hc; cases hc
  refine ⟨h.wr.off f fun j hj => ⟨by have := (hr j hj).1; omega, fun e => nc h.wr.st (e ▸ hj), fun e => ?_⟩, ⟨h.ad.fr.trans' f fun k hk q => absurd (hr k q).1 (by omega), h.ad.own⟩, ⟨h.wt.box.fr f fun q => nc h.wt.box q, h.wt.ge, h.wt.off, row_fr h.wt.row f fun j hj q => ?_, h.wt.roff⟩, ?_⟩
  · rcases h.wr.row.2 with ⟨q, _⟩ | ⟨g, cap, cur, rfl, _, hgg, _⟩
    · rw [q] at e; cases e
    · simp only [Value.ownBlock, Option.some.injEq] at e
      exact nc hgg (e ▸ hj)
  · rcases h.wt.row.2 with ⟨e, _⟩ | ⟨g, cap, cur, rfl, _, hgg, _⟩
    · rw [e] at hj; cases hj
    · simp only [Value.ownBlock, Option.some.injEq] at hj
      exact nc hgg (hj ▸ q)
  · obtain ⟨Ds, e, hn, hmm⟩ := h.ma
    refine ⟨Ds, e, hn, fun D hD => ⟨(hmm D hD).1, ?_⟩⟩
    have := (hmm D hD).2
    rw [f.block D (Array.getElem?_eq_some_iff.1 this).1 fun q => ?_]
    · exact this
    · have h1 := (hr D q).1
      have h2 := hm ⟨.collected D, #[]⟩ (by rw [e]; exact List.mem_map.2 ⟨D, hD, rfl⟩) D rfl
      omega
/-- A number more waits. -/
theorem Cs.push (h : Cs w0 wb v L cv w x cvc bq vq rs ds W) {tmp : Obj} {w1 : World} {g k cap Bs n0 : Nat} {y : Int} {sv : Value} (hk : rs.length = k) (hBs : Bx Bs sv 87 W) (hBq : Bs ≠ bq) (hn0 : n0 ≤ w.heap.size)
    (hown : w1.ownsRow w.heap.size 3 1 (.slice (some ⟨g, 0, none⟩) (k + 1) cap) (k + 1) (intv rs.reverse ++ [.int .i64 y])) (hgrow : (W.alloc tmp).grownBy w1 vq.ownBlock) (hat : vq.ownBlock = some g ∨ g = W.heap.size + 1) :
    (w1.cell? ⟨bq, 0, none⟩ = some vq ∧ w1.frozen? ⟨bq, 0, none⟩ = false) ∧ Cs w0 wb v L cv w x cvc bq (.slice (some ⟨g, 0, none⟩) (k + 1) cap) (y :: rs) ds (w1.setCell ⟨bq, 0, none⟩ (.slice (some ⟨g, 0, none⟩) (k + 1) cap)) ∧
      KeepsFrom B W (w1.setCell ⟨bq, 0, none⟩ (.slice (some ⟨g, 0, none⟩) (k + 1) cap)) ∧ Kpb n0 Bs W (w1.setCell ⟨bq, 0, none⟩ (.slice (some ⟨g, 0, none⟩) (k + 1) cap)) ∧ Bx Bs sv 87 (w1.setCell ⟨bq, 0, none⟩ (.slice (some ⟨g, 0, none⟩) (k + 1) cap)) := by
  have hbl := h.wt.box.lt
  have rowT : ∀ j, vq.ownBlock = some j → ∃ cur, W.heap[j]? = some (.cells cur 3 (0, 0)) := fun j hj => by
    rcases h.wt.row.2 with ⟨e, _⟩ | ⟨g', cap', cur, rfl, _, hgg, _⟩
    · rw [e] at hj; cases hj
    · simp only [Value.ownBlock, Option.some.injEq] at hj
      exact ⟨cur, hj ▸ hgg⟩
  have f1 : Fr (fun k => vq.ownBlock = some k) W w1 := ⟨hgrow.os, hgrow.tape, hgrow.output, Nat.le_trans (by rw [alloc_size]; omega) hgrow.size, fun j hj q => by
    rw [hgrow.block j (by rw [alloc_size]; omega) fun e => q e.symm]; exact alloc_old W tmp j hj⟩
  have b1 : Bx bq vq 87 w1 := h.wt.box.fr f1 fun q => (h.wt.roff bq q).2 rfl
  have f : Fr (fun k => k = bq ∨ vq.ownBlock = some k) W (w1.setCell ⟨bq, 0, none⟩ (.slice (some ⟨g, 0, none⟩) (k + 1) cap)) := (f1.mono fun k _ q => Or.inr q).trans (Fr.setCell (Or.inl rfl) w1)
  have hgq : g ≠ bq := by
    rcases hat with e | e
    · exact (h.wt.roff g e).2
    · omega
  have hBs' : ¬ (Bs = bq ∨ vq.ownBlock = some Bs) := fun q => by
    rcases q with q | q
    · exact hBq q
    · obtain ⟨cur, hc⟩ := rowT Bs q
      unfold Bx at hBs
      rw [hBs] at hc
      simp at hc
  refine ⟨b1.cell, ⟨h.wr.off f fun j hj => ?_, ⟨h.ad.fr.trans' f fun k hk q => ?_, h.ad.own⟩, ⟨b1.set _, h.wt.ge, h.wt.off, ?_, fun j hj => ?_⟩, h.ma.fr f fun j hj => ?_⟩, keepsFrom_of_fr B f fun j hj => ?_, ⟨f.size, fun j hj q => f.block j hj fun z => ?_⟩, hBs.fr f hBs'⟩
  · rcases hj with rfl | hj
    · exact h.wt.off
    · exact (h.wt.roff j hj).1
  · rcases q with q | q
    · have := h.wt.ge; omega
    · have := (h.wt.row.lt k q).1; omega
  · rw [List.length_cons, hk, List.reverse_cons]
    have := row_fr hown (fr_set bq 0 (.slice (some ⟨g, 0, none⟩) (k + 1) cap) w1) fun j hj q => by
      simp only [Value.ownBlock, Option.some.injEq] at hj
      unfold On at q
      omega
    simpa [intv] using this
  · simp only [Value.ownBlock, Option.some.injEq] at hj
    subst hj
    refine ⟨?_, hgq⟩
    rcases hat with e | e
    · exact (h.wt.roff g e).1
    · exact h.wr.new (by omega)
  · rcases hj with rfl | hj
    · exact ⟨_, _, _, h.wt.box⟩
    · obtain ⟨cur, hc⟩ := rowT j hj
      exact ⟨_, _, _, hc⟩
  · rcases hj with rfl | hj
    · exact ⟨_, _, _, h.wt.box⟩
    · obtain ⟨cur, hc⟩ := rowT j hj
      exact ⟨_, _, _, hc⟩
  · rcases q with q | rfl
    · rcases z with z | z
      · have := h.wt.ge; omega
      · have := (h.wt.row.lt j z).1; omega
    · exact hBs' z
end
end Go.Proofs.YtlgemficalcghaaGreat
/- The writer's codeOf. -/
namespace Go.Proofs.YtlgemficalcghaaGreat
open Go.ChangeShapes Go.WideShapes Go.ChangeAt Go.RowKit Go.Shelf
set_option linter.unusedVariables false
set_option linter.unusedSimpArgs false
attribute [local go_sem] Oper.semAt_some
def CodeOf (w0 : World) (wb : Nat) (v : Value) (L : List Nq) (m : Nat) : Prop := ∀ (a : Int) (t : PT) (x : List Ins × Nat) (cv : Value) (w : World), toT L m a = some t → t.size ≤ 1000000 → Wr w0 wb v L x cv w → Okx x →
  Calls Tryz.prog 31 #[.pointer (some ⟨wb, 0, none⟩), .int .i64 a] w (Laid w0 wb v L cv w (runT t x))
def NodeC (w0 : World) (wb : Nat) (v : Value) (L : List Nq) (m : Nat) : Prop := ∀ (a : Int) (t : PT) (x : List Ins × Nat) (cv kv : Value) (w : World), toT L m a = some t → t.size ≤ 1000000 → (nodeAt L a).op ≠ 5 → Wr w0 wb v L x cv w → Ks w0 kv (nodeAt L a).kids → Okx x →
  Calls Tryz.prog 38 #[.pointer (some ⟨wb, 0, none⟩), (nodeAt L a).val kv] w (Laid w0 wb v L cv w (runT t x))
/-- Nothing that was there has turned. -/
def Kq (w w' : World) : Prop := Kp w w'
/-- A node in a box. -/
def GqBox (b : Nat) (d : Nq) (kv : Value) (w : World) : Prop := w.heap[b]? = some (nqObj d kv)
theorem GqBox.cells {b : Nat} {d : Nq} {kv : Value} {w : World} (h : GqBox b d kv w) : w.cell? ⟨b, 0, none⟩ = some (.int .u8 d.op) ∧ w.cell? ⟨b, 1, none⟩ = some (.int .u8 d.c) ∧ w.cell? ⟨b, 2, none⟩ = some (.int .u64 d.set.a) ∧ w.cell? ⟨b, 3, none⟩ = some (.int .u64 d.set.b) ∧ w.cell? ⟨b, 4, none⟩ = some (.int .u64 d.set.c) ∧ w.cell? ⟨b, 5, none⟩ = some (.int .u64 d.set.d) ∧ w.cell? ⟨b, 6, none⟩ = some (.int .i64 d.mn) ∧ w.cell? ⟨b, 7, none⟩ = some (.int .i64 d.mx) ∧ w.cell? ⟨b, 8, none⟩ = some (.bool d.lz) ∧ w.cell? ⟨b, 9, none⟩ = some (.int .i64 d.n) ∧ w.cell? ⟨b, 10, none⟩ = some kv := by
  unfold GqBox nqObj at h
  refine ⟨?_, ?_, ?_, ?_, ?_, ?_, ?_, ?_, ?_, ?_, ?_⟩ <;> simp [World.cell?, h]
theorem toT_cat {L : List Nq} {m : Nat} {a : Int} {t : PT} (h : toT L m a = some t) (h5 : (nodeAt L a).op = 5) : ∃ m' kts, m = m' + 1 ∧ 1 ≤ (nodeAt L a).kids.length ∧ mapT (toT L m') (nodeAt L a).kids = some kts ∧ t = seqOf kts := by
  cases m with
  | zero => cases h
  | succ m =>
    unfold toT at h
    split at h
    · simp only [h5, if_true] at h
      split at h
      · rename_i h1
        obtain ⟨ts, h2, rfl⟩ := Option.map_eq_some_iff.1 h
        exact ⟨m, ts, rfl, h1, h2, rfl⟩
      · cases h
    · cases h
/-- What slices.Backward answers, ranged over. -/
theorem back_seq {w0 W3 : World} {ks : List Int} {ka : Option Addr} {kc : Nat} (hks : Ks w0 (.slice ka ks.length kc) ks) (hne : 1 ≤ ks.length) (k : Kp w0 W3) {Bs : Nat} (hB : Bx Bs (.slice ka ks.length kc) 87 W3) (n : Nat) (hn : 1 ≤ n) :
    SeqStopsK Fence.wide n Tryz.prog 51 #[.pointer (some ⟨Bs, 0, none⟩)] (fun p : Int × Int => #[.int .i64 p.1, .int .i64 p.2]) (Kpb w0.heap.size Bs) (fun xs => xs = backs ks ks.length) (fun _ => True) ks.length W3 := by
  intro l J Jx W hW _ _ hY h0
  obtain ⟨a, cap, e, h1, h2, hc⟩ := hks
  injection e with e1 e2 e3
  subst e1 e3
  obtain ⟨b, o, rfl, _⟩ := hc 0 _ (List.getElem?_eq_getElem (by omega))
  have hc' : ∀ j, j < ks.length → w0.cell? ⟨b, o + j, none⟩ = some (.int .i64 (ks[j]?.getD 0)) := fun j hj => by
    obtain ⟨b', o', e, q⟩ := hc j _ (List.getElem?_eq_getElem hj)
    injection e with e
    injection e with e1 e2
    subst e1 e2
    rw [List.getElem?_eq_getElem hj]; exact q
  have hb : b < w0.heap.size := by
    have := hc' 0 (by omega)
    rcases Nat.lt_or_ge b w0.heap.size with q | q
    · exact q
    · simp [World.cell?, Array.getElem?_eq_none q] at this
  unfold maxLen at h2
  exact back1_in Fence.wide n trivial rfl hn l Bs w0.heap.size b o kc ks (by omega) ⟨h1, by omega⟩ hb J Jx hY W (kp_cell hW hB.cell.1) (fun j hj => kp_cell hW (kp_cell k (hc' j hj))) h0
theorem toT_has {L : List Nq} {m : Nat} {a : Int} {t : PT} (h : toT L m a = some t) : hasB L a = true := by
  cases m with
  | zero => cases h
  | succ m =>
    unfold toT at h
    cases hb : hasB L a with
    | true => rfl
    | false => rw [hb] at h; simp at h
/-- What stands ahead of each round of the loop over a node's kids. -/
def RoI (w0 : World) (wb : Nat) (v : Value) (L : List Nq) (cv : Value) (w : World) (x : List Ins × Nat) (cvc : Value) (bq : Nat) (rs : List Int) (ds : List Deferred) (Bs : Nat) (sv : Value) (pre : List (Int × Int)) (W : World) : Prop :=
  ∃ vq, Cs w0 wb v L cv w x cvc bq vq ((pre.map (·.2)).reverse ++ rs) ds W ∧ Bx Bs sv 87 W
/-- What stands at the head of each round of codeOf. -/
structure CoI (w0 : World) (wb : Nat) (v : Value) (L : List Nq) (n : Nat) (cv : Value) (w : World) (X : Option (List Ins × Nat)) (k : Nat) (ds : List Deferred) (bq : Nat) (wr : World) : Prop where
  ex : ∃ rs ts x cvc vq, (sizes ts = k ∧ k ≤ 1000000) ∧ Trees L n rs ts ∧ runT (seqOf ts) x = X ∧ Okx x ∧ Cs w0 wb v L cv w x cvc bq vq rs ds wr
section
variable {w0 : World} {wb : Nat} {v cv : Value} {L : List Nq} {x : List Ins × Nat} {w : World} {n : Nat}
theorem coI_start (h : Wr w0 wb v L x cv w) (hx : Okx x) {a : Int} {t : PT} (ht : toT L n a = some t) (hs : t.size ≤ 1000000) :
    CoI w0 wb v L n cv w (runT t x) (t.size + 0) [] (w.heap.size + 1) ((w.alloc (.cells #[.int .i64 a] 3)).alloc (.cells #[.slice (some ⟨w.heap.size, 0, none⟩) 1 1] 87)) := by
  have k : Kp w ((w.alloc (.cells #[.int .i64 a] 3)).alloc (.cells #[.slice (some ⟨w.heap.size, 0, none⟩) 1 1] 87)) := kp_trans (kp_alloc _ _) (kp_alloc _ _)
  have hb : Bx (w.heap.size + 1) (.slice (some ⟨w.heap.size, 0, none⟩) 1 1) 87 ((w.alloc (.cells #[.int .i64 a] 3)).alloc (.cells #[.slice (some ⟨w.heap.size, 0, none⟩) 1 1] 87)) := by
    have := alloc_new (w.alloc (.cells #[.int .i64 a] 3)) (.cells #[.slice (some ⟨w.heap.size, 0, none⟩) 1 1] 87)
    rw [alloc_size] at this
    exact this
  have hr : ((w.alloc (.cells #[.int .i64 a] 3)).alloc (.cells #[.slice (some ⟨w.heap.size, 0, none⟩) 1 1] 87)).heap[w.heap.size]? = some (.cells #[.int .i64 a] 3 (0, 0)) := by
    rw [alloc_old _ _ _ (by rw [alloc_size]; omega)]
    exact alloc_new w _
  refine ⟨[a], [t], x, cv, _, ⟨rfl, hs⟩, ⟨⟨n, Nat.le_refl _, ht⟩, trivial⟩, ?_, hx, h.kpp k, Adw.kp _ _ k, ⟨hb, by omega, h.new (by omega), ⟨rfl, .inr ⟨w.heap.size, 1, #[.int .i64 a], rfl, Nat.le_refl _, hr, Nat.le_refl _, by simp [maxLen], rfl, rfl⟩⟩, fun j hj => ?_⟩, ⟨[], rfl, List.nodup_nil, fun D hD => by cases hD⟩⟩
  · simp only [seqOf]
    rw [runT_seq]
    cases hq : runT t x with
    | none => rfl
    | some y => rw [Option.bind_some]; exact runT_empty y (runT_ge hq)
  · simp only [Value.ownBlock, Option.some.injEq] at hj
    subst hj
    exact ⟨h.new (Nat.le_refl _), by omega⟩
set_option maxHeartbeats 4000000 in
set_option maxRecDepth 100000 in
theorem codeOf_of (hN : ∀ m, m ≤ n → NodeC w0 wb v L m) : CodeOf w0 wb v L n := by
  intro a t x cv w ht hs h hx
  have HS : Hid _ := coI_start h hx ht hs
  have HN : Hid (∀ m, m ≤ n → NodeC w0 wb v L m) := hN
  have HW : Hid (Wr w0 wb v L x cv w) := h
  obtain ⟨X, hX⟩ : ∃ X, runT t x = X := ⟨_, rfl⟩
  rw [hX] at HS ⊢
  obtain ⟨k0, hk0⟩ : ∃ k0, t.size + 0 = k0 := ⟨_, rfl⟩
  rw [hk0] at HS
  clear h hN hx ht hX hk0 hs
  refine (callsIn_wide (n := 4)).1 ?_
  refine callsIn_of_wp_marks Tryz.func31 rfl trivial ?_ rfl
  simp only [Tryz.ntmps31, List.size_toArray, List.length_cons, List.length_nil, Nat.reduceAdd, Nat.reduceSub, Array.replicate_succ, Array.replicate_zero, List.push_toArray, List.append_toArray, List.nil_append, List.cons_append]
  refine wpIn_wide.2 ?_
  go_wp2_with fail
  refine wp_loop_ghost_k (fun k a' wr => ∃ u2 u3 u5 u6 u7 u8 u9 u10 u11 u12 u13 u14 u15 u16 u17 u18 u19 u20 u21 u22 u23 u24 u25 u26 u27 u28 u29 u30 u31 u32 u33 u34 u35 u36 u37 u38 u39 u40 u41 u42 u43 u44 u45 : Value, ∃ (ds : List Deferred) (bq : Nat), a' = { tmps := (.pointer (some ⟨wb, 0, none⟩) :: .int .i64 a :: u2 :: u3 :: .pointer (some ⟨bq, 0, none⟩) :: u5 :: u6 :: u7 :: u8 :: u9 :: u10 :: u11 :: u12 :: u13 :: u14 :: u15 :: u16 :: u17 :: u18 :: u19 :: u20 :: u21 :: u22 :: u23 :: u24 :: u25 :: u26 :: u27 :: u28 :: u29 :: u30 :: u31 :: u32 :: u33 :: u34 :: u35 :: u36 :: u37 :: u38 :: u39 :: u40 :: u41 :: u42 :: u43 :: u44 :: u45 :: []).toArray, defers := ds } ∧ Hid (CoI w0 wb v L n cv w X k ds bq wr)) k0 ?_ ?_
  · (repeat apply Exists.intro)
    exact ⟨rfl, HS⟩
  rintro k a1 wr ⟨u2, u3, u5, u6, u7, u8, u9, u10, u11, u12, u13, u14, u15, u16, u17, u18, u19, u20, u21, u22, u23, u24, u25, u26, u27, u28, u29, u30, u31, u32, u33, u34, u35, u36, u37, u38, u39, u40, u41, u42, u43, u44, u45, ds, bq, rfl, HC⟩ J K hJ hK
  obtain ⟨rs, ts, x, cvc, vq, e1, e2, e3, hx, hC⟩ := HC.out.ex
  have hW := hC.wr
  have hQ := hC.wt
  cases rs with
  | nil =>
    obtain ⟨qa, qc, rfl, z1, z2⟩ := owns_form hQ.row
    clear z1 z2
    have c4 := hQ.box.cell.1
    simp only [List.length_nil] at c4
    have HE : Hid (Trees L n [] ts ∧ runT (seqOf ts) x = X ∧ Okx x ∧ Cs w0 wb v L cv w x cvc bq (.slice qa (List.length ([] : List Int)) qc) [] ds wr ∧ w0.heap.size ≤ w.heap.size) := ⟨e2, e3, hx, hC, HW.out.kp.size⟩
    clear e1 e2 e3 hx hW hQ hC
    go_wp2_with fail
    obtain ⟨e2, e3, hx, hC, hle⟩ := HE.out
    cases ts with
    | cons _ _ => exact e2.elim
    | nil =>
      rw [← e3]
      simp only [seqOf]
      rw [runT_empty x hx.1]
      exact hC.ends hle fun W' => by simp [results, Tryz.results31, go_sem]
  | cons a' rs =>
    cases ts with
    | nil => exact e2.elim
    | cons t' ts =>
    obtain ⟨⟨m, hm, ht'⟩, e2⟩ := e2
    obtain ⟨va, vc, rfl, vl1, vl2, hxx⟩ := id hW.pt
    clear hxx
    obtain ⟨nn, nb, no, kv, rfl, hnl, rfl, hcs, hks⟩ := hW.pt.node (toT_has ht')
    obtain ⟨ka, kc, rfl, kl1, kl2, hxx⟩ := id hks
    clear hxx
    obtain ⟨d, hd⟩ : ∃ d, nodeAt L nn = d := ⟨_, rfl⟩
    rw [hd] at hcs hks kl1
    obtain ⟨R, hR⟩ : ∃ R, rs.length = R := ⟨_, rfl⟩
    have hrow := hQ.row
    simp only [List.length_cons] at hrow
    rw [hR] at hrow
    obtain ⟨g, qc, rfl⟩ := ownsRow_succ hrow
    obtain ⟨_, qcc, qe, q1, q2⟩ := owns_form hrow
    injection qe with qe1 qe2 qe3
    subst qe3
    clear qe1 qe2
    have c4 := hQ.box.cell.1
    have f4 := hQ.box.cell.2
    obtain ⟨g', hg', cg⟩ := row1_cell hrow (i := R) (y := .int .i64 nn) (by rw [← hR]; simp [intv])
    injection hg' with hg'
    injection hg' with hg'
    subst hg'
    have cw := hW.c.1.1
    have c00 := kp_cell hW.kp (hcs 0 _ rfl)
    have c01 := kp_cell hW.kp (hcs 1 _ rfl)
    have c02 := kp_cell hW.kp (hcs 2 _ rfl)
    have c03 := kp_cell hW.kp (hcs 3 _ rfl)
    have c04 := kp_cell hW.kp (hcs 4 _ rfl)
    have c05 := kp_cell hW.kp (hcs 5 _ rfl)
    have c06 := kp_cell hW.kp (hcs 6 _ rfl)
    have c07 := kp_cell hW.kp (hcs 7 _ rfl)
    have c08 := kp_cell hW.kp (hcs 8 _ rfl)
    have c09 := kp_cell hW.kp (hcs 9 _ rfl)
    have c10 := kp_cell hW.kp (hcs 10 _ rfl)
    simp only [Nat.add_zero] at c00
    unfold maxLen at q2 vl2 kl2
    obtain ⟨NL, hNL⟩ : ∃ NL, L.length = NL := ⟨_, rfl⟩
    rw [hNL] at hnl cw vl1
    have hnl' : (nn : Int) < (NL : Int) := by omega
    have dR : decide ((R : Int) + 1 > 0) = true := by simp
    have HD : Hid ((sizes (t' :: ts) = k ∧ k ≤ 1000000) ∧ Trees L n rs ts ∧ runT (seqOf (t' :: ts)) x = X ∧ Okx x ∧ Cs w0 wb (.slice (some ⟨nb, no, none⟩) L.length vc) L cv w x cvc bq (.slice (some ⟨g, 0, none⟩) (R + 1) qc) (↑nn :: rs) ds wr ∧ (m ≤ n ∧ toT L m nn = some t' ∧ nodeAt L nn = d ∧ Ks w0 (.slice ka d.kids.length kc) d.kids ∧ rs.length = R)) := ⟨e1, e2, e3, hx, hC, hm, ht', hd, by rw [← hd]; rw [← hd] at hks; exact hks, hR⟩
    clear e1 e2 e3 hx hW hQ hC hm ht' hd hks hR hrow hcs hNL
    have hwR : IntKind.i64.wrap (R : Int) = (R : Int) := by rw [IntKind.wrap_i64]; omega
    have hR1 : (0 : Int) ≤ (R : Int) ∧ (R : Int) < (R : Int) + 1 := by omega
    have hn1 : (0 : Int) ≤ (nn : Int) ∧ (nn : Int) < (NL : Int) := by omega
    go_upto_region 2 with fail
    have r_w0 : ∀ w', Kq wr w' → w'.cell? ⟨wb, 0, none⟩ = some (.slice (some ⟨nb, no, none⟩) NL vc) := fun w' hk => kp_cell hk cw
    have r_q4 : ∀ w', Kq wr w' → w'.cell? ⟨bq, 0, none⟩ = some (.slice (some ⟨g, 0, none⟩) (R + 1) qc) := fun w' hk => kp_cell hk c4
    have r_g : ∀ w', Kq wr w' → w'.cell? ⟨g, R, none⟩ = some (.int .i64 nn) := fun w' hk => kp_cell hk cg
    have r_n0 : ∀ w', Kq wr w' → w'.cell? ⟨nb, no + nn * 11, none⟩ = some (.int .u8 d.op) := fun w' hk => kp_cell hk c00
    have r_n1 : ∀ w', Kq wr w' → w'.cell? ⟨nb, no + nn * 11 + 1, none⟩ = some (.int .u8 d.c) := fun w' hk => kp_cell hk c01
    have r_n2 : ∀ w', Kq wr w' → w'.cell? ⟨nb, no + nn * 11 + 2, none⟩ = some (.int .u64 d.set.a) := fun w' hk => kp_cell hk c02
    have r_n3 : ∀ w', Kq wr w' → w'.cell? ⟨nb, no + nn * 11 + 3, none⟩ = some (.int .u64 d.set.b) := fun w' hk => kp_cell hk c03
    have r_n4 : ∀ w', Kq wr w' → w'.cell? ⟨nb, no + nn * 11 + 4, none⟩ = some (.int .u64 d.set.c) := fun w' hk => kp_cell hk c04
    have r_n5 : ∀ w', Kq wr w' → w'.cell? ⟨nb, no + nn * 11 + 5, none⟩ = some (.int .u64 d.set.d) := fun w' hk => kp_cell hk c05
    have r_n6 : ∀ w', Kq wr w' → w'.cell? ⟨nb, no + nn * 11 + 6, none⟩ = some (.int .i64 d.mn) := fun w' hk => kp_cell hk c06
    have r_n7 : ∀ w', Kq wr w' → w'.cell? ⟨nb, no + nn * 11 + 7, none⟩ = some (.int .i64 d.mx) := fun w' hk => kp_cell hk c07
    have r_n8 : ∀ w', Kq wr w' → w'.cell? ⟨nb, no + nn * 11 + 8, none⟩ = some (.bool d.lz) := fun w' hk => kp_cell hk c08
    have r_n9 : ∀ w', Kq wr w' → w'.cell? ⟨nb, no + nn * 11 + 9, none⟩ = some (.int .i64 d.n) := fun w' hk => kp_cell hk c09
    have r_n10 : ∀ w', Kq wr w' → w'.cell? ⟨nb, no + nn * 11 + 10, none⟩ = some (.slice ka d.kids.length kc) := fun w' hk => kp_cell hk c10
    clear cw c4 cg c00 c01 c02 c03 c04 c05 c06 c07 c08 c09 c10
    refine wp_region_noPanic ?_
    refine wp_region_held_drew (S := Kq wr) (by kernel_rfl) (kp_drew wr) (fun hHeld => ?_)
    refine takeAt 0 (some 13) ?_ rfl rfl (by kernel_rfl) (by kernel_rfl) (by kernel_rfl) (fun _ _ _ h => h) (Or.inl ⟨by rfl, ?_⟩) hHeld ?_
    rotate_left
    · intro w hSw
      go_simp <;> with_reducible rfl
    try simp only [Act.put, List.setIfInBounds_toArray, List.set_cons_zero, List.set_cons_succ]
    refine takeAt 1 (some 14) ?_ rfl rfl (by kernel_rfl) (by kernel_rfl) (by kernel_rfl) (fun _ _ _ h => h) (Or.inl ⟨by rfl, ?_⟩) hHeld ?_
    rotate_left
    · intro w hSw
      go_simp <;> with_reducible rfl
    try simp only [Act.put, List.setIfInBounds_toArray, List.set_cons_zero, List.set_cons_succ]
    refine takeAt 2 (some 15) ?_ rfl rfl (by kernel_rfl) (by kernel_rfl) (by kernel_rfl) (fun _ _ _ h => h) (Or.inl ⟨by rfl, ?_⟩) hHeld ?_
    rotate_left
    · intro w hSw
      go_simp <;> with_reducible rfl
    try simp only [Act.put, List.setIfInBounds_toArray, List.set_cons_zero, List.set_cons_succ]
    refine takeAt 3 (some 16) ?_ rfl rfl (by kernel_rfl) (by kernel_rfl) (by kernel_rfl) (fun _ _ _ h => h) (Or.inl ⟨by rfl, ?_⟩) hHeld ?_
    rotate_left
    · intro w hSw
      go_simp <;> with_reducible rfl
    try simp only [Act.put, List.setIfInBounds_toArray, List.set_cons_zero, List.set_cons_succ]
    refine takeAt 4 (some 17) ?_ rfl rfl (by kernel_rfl) (by kernel_rfl) (by kernel_rfl) (fun _ _ _ h => h) (Or.inl ⟨by rfl, ?_⟩) hHeld ?_
    rotate_left
    · intro w hSw
      go_simp <;> with_reducible rfl
    try simp only [Act.put, List.setIfInBounds_toArray, List.set_cons_zero, List.set_cons_succ]
    refine takeAt 5 (some 18) ?_ rfl rfl (by kernel_rfl) (by kernel_rfl) (by kernel_rfl) (fun _ _ _ h => h) (Or.inl ⟨by rfl, ?_⟩) hHeld ?_
    rotate_left
    · intro w hSw
      go_simp <;> with_reducible rfl
    try simp only [Act.put, List.setIfInBounds_toArray, List.set_cons_zero, List.set_cons_succ]
    refine takeAt 6 (some 19) ?_ rfl rfl (by kernel_rfl) (by kernel_rfl) (by kernel_rfl) (fun _ _ _ h => h) (Or.inl ⟨by rfl, ?_⟩) hHeld ?_
    rotate_left
    · intro w hSw
      go_simp <;> with_reducible rfl
    try simp only [Act.put, List.setIfInBounds_toArray, List.set_cons_zero, List.set_cons_succ]
    refine takeAt 7 (some 20) ?_ rfl rfl (by kernel_rfl) (by kernel_rfl) (by kernel_rfl) (fun _ _ _ h => h) (Or.inl ⟨by rfl, ?_⟩) hHeld ?_
    rotate_left
    · intro w hSw
      go_simp <;> with_reducible rfl
    try simp only [Act.put, List.setIfInBounds_toArray, List.set_cons_zero, List.set_cons_succ]
    refine takeAt 8 (some 21) ?_ rfl rfl (by kernel_rfl) (by kernel_rfl) (by kernel_rfl) (fun _ _ _ h => h) (Or.inl ⟨by rfl, ?_⟩) hHeld ?_
    rotate_left
    · intro w hSw
      go_simp <;> with_reducible rfl
    try simp only [Act.put, List.setIfInBounds_toArray, List.set_cons_zero, List.set_cons_succ]
    refine takeAt 9 (some 22) ?_ rfl rfl (by kernel_rfl) (by kernel_rfl) (by kernel_rfl) (fun _ _ _ h => h) (Or.inl ⟨by rfl, ?_⟩) hHeld ?_
    rotate_left
    · intro w hSw
      go_simp <;> with_reducible rfl
    try simp only [Act.put, List.setIfInBounds_toArray, List.set_cons_zero, List.set_cons_succ]
    refine takeAt 10 (some 23) ?_ rfl rfl (by kernel_rfl) (by kernel_rfl) (by kernel_rfl) (fun _ _ _ h => h) (Or.inl ⟨by rfl, ?_⟩) hHeld ?_
    rotate_left
    · intro w hSw
      go_simp <;> with_reducible rfl
    try simp only [Act.put, List.setIfInBounds_toArray, List.set_cons_zero, List.set_cons_succ]
    refine takeAt 11 (some 24) ?_ rfl rfl (by kernel_rfl) (by kernel_rfl) (by kernel_rfl) (fun _ _ _ h => h) (Or.inl ⟨by rfl, ?_⟩) hHeld ?_
    rotate_left
    · intro w hSw
      go_simp <;> with_reducible rfl
    try simp only [Act.put, List.setIfInBounds_toArray, List.set_cons_zero, List.set_cons_succ]
    refine wpAnyH_ready (rs := [12]) (by kernel_rfl) (by simp) ?_
    refine AllReadyH.cons rfl (fun K hK => ?_) AllReadyH.nil
    go_simp
    refine hK.out _ _ (kp_trans (kp_drew wr) (kp_alloc _ _)) (fun hHeld => ?_)
    clear hK K
    try simp only [Act.put, List.setIfInBounds_toArray, List.set_cons_zero, List.set_cons_succ]
    refine wpAnyH_ready (rs := [13]) (by kernel_rfl) (by simp) ?_
    refine AllReadyH.cons rfl (fun K hK => ?_) AllReadyH.nil
    go_simp
    refine hK.out _ _ (kp_trans (kp_alloc wr _) (kp_drew _)) (fun hHeld => ?_)
    clear hK K
    try simp only [Act.put, List.setIfInBounds_toArray, List.set_cons_zero, List.set_cons_succ]
    refine wpAnyH_done (by kernel_rfl) ?_ _
    refine NoPanic.normal ?_
    clear r_w0 r_q4 r_g r_n0 r_n1 r_n2 r_n3 r_n4 r_n5 r_n6 r_n7 r_n8 r_n9 r_n10 hHeld
    have HX1 : Hid (Kp wr (wr.alloc (nqObj d (.slice ka d.kids.length kc))).drew ∧ GqBox wr.heap.size d (.slice ka d.kids.length kc) (wr.alloc (nqObj d (.slice ka d.kids.length kc))).drew) := ⟨kp_trans (kp_alloc wr _) (kp_drew _), alloc_new wr _⟩
    unfold nqObj at HX1
    generalize (wr.alloc (.cells #[.int .u8 d.op, .int .u8 d.c, .int .u64 d.set.a, .int .u64 d.set.b, .int .u64 d.set.c, .int .u64 d.set.d, .int .i64 d.mn, .int .i64 d.mx, .bool d.lz, .int .i64 d.n, .slice ka d.kids.length kc] 91)).drew = x1 at HX1 ⊢
    have c4 := (HD.out.2.2.2.2.1.kp HX1.out.1).wt.box.cell.1
    have f4 := (HD.out.2.2.2.2.1.kp HX1.out.1).wt.box.cell.2
    go_upto_region 4 with fail
    have HC2 : Hid (Cs w0 wb (.slice (some ⟨nb, no, none⟩) L.length vc) L cv w x cvc bq (.slice (some ⟨g, 0, none⟩) R qc) rs ds (x1.setCell ⟨bq, 0, none⟩ (.slice (some ⟨g, 0, none⟩) R qc))) := (HD.out.2.2.2.2.1.kp HX1.out.1).pop HD.out.2.2.2.2.2.2.2.2.2
    have HB2 : Hid (GqBox wr.heap.size d (.slice ka d.kids.length kc) (x1.setCell ⟨bq, 0, none⟩ (.slice (some ⟨g, 0, none⟩) R qc))) := by
      have hlt := HD.out.2.2.2.2.1.wt.box.lt
      have := HX1.out.2
      show _ = _
      rw [heap_setCell_other (by omega)]; exact this
    clear c4 f4 HX1
    generalize (x1.setCell ⟨bq, 0, none⟩ (.slice (some ⟨g, 0, none⟩) R qc)) = x2 at HC2 HB2 ⊢
    have nq := HB2.out.cells
    obtain ⟨n0, n1, n2, n3, n4, n5, n6, n7, n8, n9, n10⟩ := nq
    obtain ⟨bn, hbn⟩ : ∃ bn, wr.heap.size = bn := ⟨_, rfl⟩
    rw [hbn] at n0 n1 n2 n3 n4 n5 n6 n7 n8 n9 n10 HB2 ⊢
    clear hbn
    have c4 := HC2.out.wt.box.cell.1
    have f4 := HC2.out.wt.box.cell.2
    by_cases h5 : d.op = 5
    · have HO : Hid (d.op = 5) := h5
      rw [h5] at n0 ⊢
      clear h5
      go_wp2_with fail
      refine (backward_any _ _ _ _).mono ?_
      rintro e w3 ⟨rfl, rfl⟩
      go_wp2_with fail
      obtain ⟨⟨e1, ek⟩, e2, e3, hx, _, hm, ht', hd, hks, hR⟩ := HD.out
      obtain ⟨m', kts, rfl, h1k, hkt, rfl⟩ := toT_cat ht' (by rw [hd]; exact HO.out)
      rw [hd] at h1k hkt
      have hT2 : Trees L n (d.kids ++ rs) (kts ++ ts) := (mapT_trees (by omega) hkt).append e2
      have hlen := hT2.len
      rw [List.length_append, hR, sizes_append] at hlen
      have hsz := size_seqOf kts
      have hle0 : w0.heap.size ≤ w.heap.size := HW.out.kp.size
      have hC3 : Cs w0 wb (.slice (some ⟨nb, no, none⟩) L.length vc) L cv w x cvc bq (.slice (some ⟨g, 0, none⟩) R qc) rs ds (x2.alloc (.cells #[.slice ka d.kids.length kc] 87)) := HC2.out.kp (kp_alloc _ _)
      have hB3 : Bx x2.heap.size (.slice ka d.kids.length kc) 87 (x2.alloc (.cells #[.slice ka d.kids.length kc] 87)) := alloc_new x2 _
      have hBq : x2.heap.size ≠ bq := by have := HC2.out.wt.box.lt; omega
      have hw3 : w.heap.size ≤ (x2.alloc (.cells #[.slice ka d.kids.length kc] 87)).heap.size := hC3.ad.fr.size
      have hm3 : ∀ d' ∈ ds, ∀ D, d'.target = .collected D → D < (x2.alloc (.cells #[.slice ka d.kids.length kc] 87)).heap.size := fun d' hd' D hD => hC3.ma.lt hd' hD
      have hz3 : (x2.alloc (.cells #[.slice ka d.kids.length kc] 87)).heap.size = x2.heap.size + 1 := alloc_size _ _
      have HSQ : Hid _ := back_seq hks h1k hC3.wr.kp hB3 3 (by omega)
      have HAll : Hid (sizes (seqOf kts :: ts) = k ∧ k ≤ 1000000 ∧ Trees L n (d.kids ++ rs) (kts ++ ts) ∧ runT (seqOf (kts ++ ts)) x = X ∧ Okx x ∧ rs.length = R) := ⟨e1, ek, hT2, by rw [runT_seqOf_append _ _ _ hx.1, ← e3]; simp only [seqOf]; rw [runT_seq], hx, hR⟩
      have hbnd : d.kids.length + R ≤ 1000000 := by simp only [sizes] at e1; omega
      clear e1 ek e2 e3 hx hm ht' hd hks hR h1k hkt hT2 hlen hsz c4 f4 n0 n1 n2 n3 n4 n5 n6 n7 n8 n9 n10
      obtain ⟨i9, hi9, z0, z1, z2⟩ := info_parts infoInt
      refine (wpIn_wide (n := 4)).1 (wpIn_rangeFunc_ownG rfl (by omega) (gf := 51) (lb := #[.pointer (some ⟨x2.heap.size, 0, none⟩)]) rfl trivial (enters_of Tryz.func51 (by kernel_rfl) rfl)
        HSQ.out Kpb.trans (fun W l o o' hl _ _ _ => Kpb.put (by have := hw3; omega) (by omega)) (Below.refl _ _) (fun _ => rfl)
        (RoI w0 wb (.slice (some ⟨nb, no, none⟩) L.length vc) L cv w x cvc bq rs ds x2.heap.size (.slice ka d.kids.length kc)) (fun _ _ _ => False)
        (fun s A B row hs hg hr => by
          obtain ⟨vq, q1, q2⟩ := hs
          refine ⟨vq, q1.own hg hr hw3 hle0 hm3, ?_⟩
          refine (hg.block _ q2.lt fun e => ?_).trans q2
          have := (hr _ e.symm).1
          omega)
        (fun _ _ _ _ _ hs _ _ => hs) ⟨_, hC3, hB3⟩
        (fun p => { tmps := (.pointer (some ⟨wb, 0, none⟩) :: .int .i64 a :: u2 :: u3 :: .pointer (some ⟨bq, 0, none⟩) :: .pointer (some ⟨bn, 0, none⟩) :: u6 :: .int .i64 p.2 :: u8 :: u9 :: .slice (some ⟨g, 0, none⟩) (R + 1) qc :: .int .i64 ((R : Int) + 1) :: .bool true :: .pointer (some ⟨wb, 0, none⟩) :: .pointer (some ⟨wb, 0, none⟩) :: .pointer (some ⟨wb, 0, none⟩) :: .slice (some ⟨nb, no, none⟩) NL vc :: .slice (some ⟨g, 0, none⟩) (R + 1) qc :: .slice (some ⟨g, 0, none⟩) (R + 1) qc :: .int .i64 ((R : Int) + 1) :: .int .i64 R :: .pointer (some ⟨g, R, none⟩) :: .int .i64 nn :: .pointer (some ⟨nb, no + nn * 11, none⟩) :: .agg #[.int .u8 5, .int .u8 d.c, .int .u64 d.set.a, .int .u64 d.set.b, .int .u64 d.set.c, .int .u64 d.set.d, .int .i64 d.mn, .int .i64 d.mx, .bool d.lz, .int .i64 d.n, .slice ka d.kids.length kc] :: .slice (some ⟨g, 0, none⟩) (R + 1) qc :: .slice (some ⟨g, 0, none⟩) (R + 1) qc :: .int .i64 ((R : Int) + 1) :: .int .i64 R :: .slice (some ⟨g, 0, none⟩) R qc :: .pointer (some ⟨bn, 0, none⟩) :: .int .u8 5 :: .bool false :: u33 :: u34 :: u35 :: .pointer (some ⟨bn, 10, none⟩) :: .slice ka d.kids.length kc :: .func (.func 51) #[] #[.pointer (some ⟨x2.heap.size, 0, none⟩)] :: .int .i64 p.1 :: .int .i64 p.2 :: u41 :: u42 :: u43 :: u44 :: u45 :: []).toArray, defers := [] }) ?assign ?body ?done ?stop)
      case assign =>
        intro l p W K hK
        gi_wp2
        exact hK
      case body =>
        rintro l pre p W ⟨vq, hC, hB⟩ hpre
        obtain ⟨qa', qc', rfl, _, _⟩ := owns_form hC.wt.row
        obtain ⟨K1, hK1⟩ : ∃ K1, ((pre.map (·.2)).reverse ++ rs).length = K1 := ⟨_, rfl⟩
        have hKb : K1 ≤ 1000000 - 1 := by
          have := HAll.out.2.2.2.2.2
          simp only [List.length_append, List.length_reverse, List.length_map] at hK1
          omega
        have hrow := hC.wt.row
        have c4 := hC.wt.box.cell.1
        have f4 := hC.wt.box.cell.2
        rw [hK1] at hrow c4
        have HROW : Hid ((W.alloc (.cells #[.int .i64 p.2] 3)).ownsRow w.heap.size 3 1 (.slice qa' K1 qc') K1 (intv ((pre.map (·.2)).reverse ++ rs).reverse)) := row_kp hrow (kp_alloc _ _)
        have HPUSH : Hid (∀ g' cap' w1, w1.ownsRow w.heap.size 3 1 (.slice (some ⟨g', 0, none⟩) (K1 + 1) cap') (K1 + 1) (intv ((pre.map (·.2)).reverse ++ rs).reverse ++ [.int .i64 p.2]) → (W.alloc (.cells #[.int .i64 p.2] 3)).grownBy w1 (Value.slice qa' K1 qc').ownBlock → ((Value.slice qa' K1 qc').ownBlock = some g' ∨ g' = W.heap.size + 1) →
            (w1.cell? ⟨bq, 0, none⟩ = some (.slice qa' K1 qc') ∧ w1.frozen? ⟨bq, 0, none⟩ = false) ∧ Hid (Cs w0 wb (.slice (some ⟨nb, no, none⟩) L.length vc) L cv w x cvc bq (.slice (some ⟨g', 0, none⟩) (K1 + 1) cap') (p.2 :: ((pre.map (·.2)).reverse ++ rs)) ds (w1.setCell ⟨bq, 0, none⟩ (.slice (some ⟨g', 0, none⟩) (K1 + 1) cap')) ∧
              KeepsFrom (x2.alloc (.cells #[.slice ka d.kids.length kc] 87)).heap.size W (w1.setCell ⟨bq, 0, none⟩ (.slice (some ⟨g', 0, none⟩) (K1 + 1) cap')) ∧ Kpb w0.heap.size x2.heap.size W (w1.setCell ⟨bq, 0, none⟩ (.slice (some ⟨g', 0, none⟩) (K1 + 1) cap')) ∧ Bx x2.heap.size (.slice ka d.kids.length kc) 87 (w1.setCell ⟨bq, 0, none⟩ (.slice (some ⟨g', 0, none⟩) (K1 + 1) cap')))) := by
          intro g' cap' w1 r1 r2 r3
          rw [hK1] at hC
          exact hC.push hK1 hB hBq hle0 r1 r2 r3
        have HBS : Hid (w.heap.size ≤ (W.alloc (.cells #[.int .i64 p.2] 3)).heap.size) := by
          have := hC.ad.fr.size
          show w.heap.size ≤ _
          rw [alloc_size]; omega
        clear hC hB hrow hK1 HAll HSQ hC3 hB3 HC2 HB2 HD HC HS HW HN
        gi_wp2_with (gi_at_builtin; refine wpListIn_append_lies _ rfl _ _ 87 rfl w.heap.size 3 i9 _ 1 8 Tryz.underlying87 hi9 z0 z1 z2 rfl (by decide) (.slice qa' K1 qc') K1 (intv ((pre.map (·.2)).reverse ++ rs).reverse) rfl HROW.out ⟨W.heap.size, 0, none⟩ 1 1 [.int .i64 p.2] rfl rfl (cell_one_new _ _ _) (by simp [Value.oneCell']) (by omega) (by unfold maxLen; omega) (by omega) HBS.out (W.heap.size + 1) (alloc_size _ _) ?_; intro g' cap' w1 hown hgrow hat hlt; obtain ⟨⟨c1, f1⟩, HP⟩ := HPUSH.out g' cap' w1 hown hgrow hat; clear hown hgrow hat)
        obtain ⟨r1, r2, r3, r4⟩ := HP.out
        rw [hz3] at r2
        exact ⟨r2, r3, _, by simpa using r1, r4⟩
      case done =>
        rintro D xs W hD rfl ⟨vq, hC, hB⟩ hK
        rw [backs_all, List.reverse_reverse] at hC
        have hC' : Cs w0 wb (.slice (some ⟨nb, no, none⟩) L.length vc) L cv w x cvc bq vq (d.kids ++ rs) ({ target := .collected D, args := #[] } :: ds) W :=
          ⟨hC.wr, hC.ad, hC.wt, hC.ma.add hK (Nat.le_trans hw3 hD) fun d' hd' e => by have := hm3 d' hd' D e; omega⟩
        obtain ⟨qa', qc', rfl, _, _⟩ := owns_form hC'.wt.row
        obtain ⟨M, hM⟩ : ∃ M, (d.kids ++ rs).length = M := ⟨_, rfl⟩
        rw [hM] at hC'
        have c4 := hC'.wt.box.cell.1
        have f4 := hC'.wt.box.cell.2
        have HCn : Hid _ := hC'
        clear hC hC' hB hK hM
        go_wp2_with fail
        refine Handed.intro (sizes (kts ++ ts)) ?_ (hJ _ _ _ ?_)
        · have := HAll.out.1
          simp only [sizes] at this
          have := size_seqOf kts
          rw [sizes_append]
          omega
        · (repeat apply Exists.intro)
          refine ⟨rfl, ?_⟩
          exact ⟨d.kids ++ rs, kts ++ ts, x, cvc, _, ⟨rfl, by have := HAll.out.1; have := HAll.out.2.1; have := size_seqOf kts; simp only [sizes, sizes_append] at *; omega⟩, HAll.out.2.2.1, HAll.out.2.2.2.1, HAll.out.2.2.2.2.1, HCn.out.move⟩
      case stop =>
        rintro D c pre W _ _ h _
        exact h.elim
    · have HO : Hid (d.op ≠ 5) := h5
      have d5 : ((d.op : Int) == 5) = false := by simp; omega
      clear h5
      obtain ⟨e1, e2, e3, hx, _, hm, ht', hd, hks, hR⟩ := HD.out
      have hcall := HN.out m hm nn t' x cvc (.slice ka d.kids.length kc) x2 ht' (by have := e1.1; have := e1.2; simp only [sizes] at *; omega) (by rw [hd]; exact HO.out) HC2.out.wr (by rw [hd]; exact hks) hx
      rw [hd] at hcall
      unfold Nq.val at hcall
      simp only [seqOf] at e3
      rw [runT_seq] at e3
      cases hr : runT t' x with
      | none =>
        rw [hr] at hcall e3
        have hX : X = none := by rw [← e3]; rfl
        subst hX
        have HCa : Hid _ := hcall
        clear hcall e1 e2 e3 hx hm ht' hd hks hR hr
        go_wp2_with fail
        refine Calls.mono HCa.out ?_
        rintro e w3 ⟨rfl, f3⟩
        have HF : Hid (Fr (Wb wb cvc) x2 w3) := f3
        unfold TooLong
        clear f3 HCa
        go_wp2_with fail
        exact HC2.out.fails HF.out rfl
      | some x' =>
        rw [hr] at hcall e3
        rw [Option.bind_some] at e3
        have HE : Hid ((sizes (t' :: ts) = k ∧ k ≤ 1000000) ∧ Trees L n rs ts ∧ runT (seqOf ts) x' = X ∧ Okx x') := ⟨e1, e2, e3, runT_ok hr hx⟩
        have HCa : Hid _ := hcall
        clear hcall e1 e2 e3 hx hm ht' hd hks hR hr
        go_wp2_with fail
        refine Calls.mono HCa.out ?_
        rintro e w3 ⟨rfl, cv1, hw3, ha3⟩
        have HC3 : Hid _ := HC2.out.adv hw3 ha3
        clear hw3 ha3 c4 f4 n0 n1 n2 n3 n4 n5 n6 n7 n8 n9 n10 HCa
        have c4 := HC3.out.wt.box.cell.1
        have f4 := HC3.out.wt.box.cell.2
        go_wp2_with fail
        refine Handed.intro (sizes ts) ?_ (hJ _ _ _ ?_)
        · rw [← HE.out.1.1]; simp only [sizes]; have := size_pos t'; omega
        · (repeat apply Exists.intro)
          refine ⟨rfl, ?_⟩
          exact ⟨rs, ts, x', cv1, _, ⟨rfl, by have := HE.out.1.1; have := HE.out.1.2; simp only [sizes] at *; omega⟩, HE.out.2.1, HE.out.2.2.1, HE.out.2.2.2, HC3.out.move⟩
end
end Go.Proofs.YtlgemficalcghaaGreat
/- The writer's round, group and loop. -/
namespace Go.Proofs.YtlgemficalcghaaGreat
open Go.ChangeShapes Go.WideShapes Go.ChangeAt Go.RowKit
set_option linter.unusedVariables false
set_option linter.unusedSimpArgs false
/-- One instruction more. -/
def runI (i : Ins) (x : List Ins × Nat) : Option (List Ins × Nat) := if x.1.length < 2000 then some (x.1 ++ [i], x.2) else none
/-- A round: its number, its kid's code. -/
def roundF (t : PT) (x : List Ins × Nat) : Option (List Ins × Nat) :=
  (runI (startI x.2) (x.1, x.2 + 1)).bind fun y => (runT t y).bind (runI (goneI x.2))
def gGroupF (n : Int) (t : PT) (x : List Ins × Nat) : Option (List Ins × Nat) :=
  (runI (saveI (2 * n)) x).bind fun y => (runT t y).bind (runI (saveI (2 * n + 1)))
def loopF (lz : Bool) (t : PT) (x : List Ins × Nat) : Option (List Ins × Nat) :=
  (runI { op := 4 } x).bind fun y => (roundF t y).bind fun z => (runI (jumpI x.1.length) z).map fun u => (u.1.set x.1.length (splitI lz x.1.length u.1.length), u.2)
theorem runI_some {i : Ins} {x y : List Ins × Nat} (h : runI i x = some y) : x.1.length < 2000 ∧ y = (x.1 ++ [i], x.2) := by
  unfold runI at h
  split at h
  · cases h; exact ⟨by assumption, rfl⟩
  · cases h
theorem runI_none {i : Ins} {x : List Ins × Nat} (h : runI i x = none) : ¬ x.1.length < 2000 := by
  unfold runI at h
  split at h
  · cases h
  · assumption
theorem runI_ok {i : Ins} {x y : List Ins × Nat} (h : runI i x = some y) (hx : x.2 ≤ x.1.length + 1) : Okx y := by
  obtain ⟨h1, rfl⟩ := runI_some h
  exact ⟨by simp; omega, by simpa using hx⟩
theorem roundF_some {t : PT} {x y : List Ins × Nat} (h : roundF t x = some y) (hx : Okx x) : Okx y ∧ y.1 = x.1 ++ startI x.2 :: t.code (x.1.length + 1) (x.2 + 1) ++ [goneI x.2] ∧ y.2 = x.2 + 1 + t.rnd := by
  unfold roundF at h
  cases h1 : runI (startI x.2) (x.1, x.2 + 1) with
  | none => rw [h1] at h; cases h
  | some a =>
    rw [h1, Option.bind_some] at h
    have ha := runI_ok h1 (by have := hx.2; simp only; omega)
    obtain ⟨_, rfl⟩ := runI_some h1
    cases h2 : runT t (x.1 ++ [startI x.2], x.2 + 1) with
    | none => rw [h2] at h; cases h
    | some b =>
      rw [h2, Option.bind_some] at h
      have hb := runT_ok h2 ha
      have hc := runI_ok h (by have := hb.2; omega)
      obtain ⟨_, rfl⟩ := runI_some h
      unfold runT at h2
      split at h2
      · cases h2
        exact ⟨hc, by simp, by simp⟩
      · cases h2
section
variable {w0 : World} {wb : Nat} {v cv : Value} {L : List Nq} {x : List Ins × Nat} {w w1 : World} {n : Nat}
/-- lay, in these words. -/
def LayP (w0 : World) (wb : Nat) (v : Value) (L : List Nq) (cv : Value) (w : World) (N : Nat) (X : Option (List Ins × Nat)) (e : Ending) (w' : World) : Prop :=
  match X with
  | some y => e = .returned (.int .i64 N) ∧ ∃ cv', Wr w0 wb v L y cv' w' ∧ Adw wb cv w cv' w'
  | none => e = TooLong ∧ Fr (Wb wb cv) w w'
theorem lay_any (h : Wr w0 wb v L x cv w) (hx : x.1.length ≤ 2000) (d : Ins) : Calls Tryz.prog 32 #[.pointer (some ⟨wb, 0, none⟩), d.val] w (LayP w0 wb v L cv w x.1.length (runI d x)) := by
  unfold runI
  by_cases hl : x.1.length < 2000
  · rw [if_pos hl]; exact lay_ok h d hl
  · rw [if_neg hl]; exact lay_no h d (by omega)
theorem Wr.bump (h : Wr w0 wb v L x cv w) : Wr w0 wb v L (x.1, x.2 + 1) cv (w.setCell ⟨wb, 2, none⟩ (.int .i64 ((x.2 : Int) + 1))) ∧ Adw wb cv w cv (w.setCell ⟨wb, 2, none⟩ (.int .i64 ((x.2 : Int) + 1))) := by
  have f : Fr (Wb wb cv) w (w.setCell ⟨wb, 2, none⟩ (.int .i64 ((x.2 : Int) + 1))) := Fr.setCell (.inl rfl) w
  refine ⟨⟨h.kpf f, h.pt, h.ge, by rw [heap_setCell h.st]; simp, ?_, h.apart⟩, f, .inl rfl⟩
  refine row_fr h.row (fr_set wb 2 (.int .i64 ((x.2 : Int) + 1)) w) fun j hj q => ?_
  unfold On at q
  exact h.apart (q ▸ hj)
set_option maxHeartbeats 2000000 in
theorem round_any (hC : CodeOf w0 wb v L n) {a : Int} {t : PT} (ht : toT L n a = some t) (hs : t.size ≤ 1000000) (h : Wr w0 wb v L x cv w) (hx : Okx x) :
    Calls Tryz.prog 76 #[.pointer (some ⟨wb, 0, none⟩), .int .i64 a] w (Laid w0 wb v L cv w (roundF t x)) := by
  obtain ⟨cs, r⟩ := x
  obtain ⟨hx, hr⟩ := hx
  simp only at hx hr
  have HC : Hid (∀ (x : List Ins × Nat) (cv : Value) (w : World), Wr w0 wb v L x cv w → Okx x → Calls Tryz.prog 31 #[.pointer (some ⟨wb, 0, none⟩), .int .i64 a] w (Laid w0 wb v L cv w (runT t x))) := fun x cv w => hC a t x cv w ht hs
  have HL1 : Hid (∀ (x : List Ins × Nat) (cv : Value) (w : World), Wr w0 wb v L x cv w → x.1.length ≤ 2000 → Calls Tryz.prog 32 #[.pointer (some ⟨wb, 0, none⟩), .agg #[.int .u8 12, .int .u8 0, .int .u64 0, .int .u64 0, .int .u64 0, .int .u64 0, .int .i64 r, .int .i64 0]] w (LayP w0 wb v L cv w x.1.length (runI (startI r) x))) := fun x cv w h hx => lay_any h hx (startI r)
  have HL2 : Hid (∀ (x : List Ins × Nat) (cv : Value) (w : World), Wr w0 wb v L x cv w → x.1.length ≤ 2000 → Calls Tryz.prog 32 #[.pointer (some ⟨wb, 0, none⟩), .agg #[.int .u8 13, .int .u8 0, .int .u64 0, .int .u64 0, .int .u64 0, .int .u64 0, .int .i64 r, .int .i64 0]] w (LayP w0 wb v L cv w x.1.length (runI (goneI r) x))) := fun x cv w h hx => lay_any h hx (goneI r)
  have c2 := h.c.1.2.2
  have f2 := h.c.2 2
  simp only at c2
  have hwb := h.lt
  have HB : Hid _ := h.bump
  have HA : Hid (Adw wb cv w cv (w.setCell ⟨wb, 2, none⟩ (.int .i64 ((r : Int) + 1)))) := h.bump.2
  obtain ⟨X, hX⟩ : ∃ X, roundF t (cs, r) = X := ⟨_, rfl⟩
  have HX : Hid (roundF t (cs, r) = X) := hX
  rw [hX]
  clear h hC ht hX
  go_enter Tryz.func76, Tryz.ntmps76
  go_wp2_with fail
  cases hr1 : runI (startI r) (cs, r + 1) with
  | none =>
    have hX : X = none := by rw [← HX.out]; simp only [roundF, hr1, Option.bind_none]
    subst hX
    refine Calls.mono (HL1.out _ _ _ HB.out.1 hx) ?_
    rw [hr1]
    rintro e w3 ⟨rfl, f3⟩
    have HF : Hid (Fr (Wb wb cv) w w3) := HA.out.fail f3
    unfold TooLong
    clear f3
    go_wp2_with fail
    exact ⟨rfl, rfl, HF.out⟩
  | some y1 =>
    refine Calls.mono (HL1.out _ _ _ HB.out.1 hx) ?_
    rw [hr1]
    rintro e w1 ⟨rfl, cv1, q1, q2⟩
    have HW : Hid (Wr w0 wb v L y1 cv1 w1) := q1
    replace HA : Hid (Adw wb cv w cv1 w1) := HA.out.trans q2
    have HO : Hid (Okx y1) := runI_ok hr1 (by simp only; omega)
    have HR1 : Hid (runI (startI r) (cs, r + 1) = some y1) := hr1
    clear q1 q2 hr1
    go_wp2_with fail
    cases hr2 : runT t y1 with
    | none =>
      have hX : X = none := by rw [← HX.out]; simp only [roundF, HR1.out, Option.bind_some, hr2, Option.bind_none]
      subst hX
      refine Calls.mono (HC.out _ _ _ HW.out HO.out) ?_
      rw [hr2]
      rintro e w3 ⟨rfl, f3⟩
      have HF : Hid (Fr (Wb wb cv) w w3) := HA.out.fail f3
      unfold TooLong
      clear f3
      go_wp2_with fail
      exact ⟨rfl, rfl, HF.out⟩
    | some y2 =>
      refine Calls.mono (HC.out _ _ _ HW.out HO.out) ?_
      rw [hr2]
      rintro e w2 ⟨rfl, cv2, q1, q2⟩
      have HW : Hid (Wr w0 wb v L y2 cv2 w2) := q1
      replace HA : Hid (Adw wb cv w cv2 w2) := HA.out.trans q2
      have HO : Hid (Okx y2) := runT_ok hr2 HO.out
      have HR2 : Hid (runT t y1 = some y2) := hr2
      clear q1 q2 hr2
      go_wp2_with fail
      cases hr3 : runI (goneI r) y2 with
      | none =>
        have hX : X = none := by rw [← HX.out]; simp only [roundF, HR1.out, Option.bind_some, HR2.out, hr3]
        subst hX
        refine Calls.mono (HL2.out _ _ _ HW.out HO.out.1) ?_
        rw [hr3]
        rintro e w3 ⟨rfl, f3⟩
        have HF : Hid (Fr (Wb wb cv) w w3) := HA.out.fail f3
        unfold TooLong
        clear f3
        go_wp2_with fail
        exact ⟨rfl, rfl, HF.out⟩
      | some y3 =>
        refine Calls.mono (HL2.out _ _ _ HW.out HO.out.1) ?_
        rw [hr3]
        rintro e w3 ⟨rfl, cv3, q1, q2⟩
        have HW : Hid (Wr w0 wb v L y3 cv3 w3) := q1
        replace HA : Hid (Adw wb cv w cv3 w3) := HA.out.trans q2
        have HO : Hid (Okx y3) := runI_ok hr3 (by have := HO.out.2; omega)
        have HR3 : Hid (runI (goneI r) y2 = some y3) := hr3
        clear q1 q2 hr3
        go_wp2_with fail
        go_end0
        have hX : X = some y3 := by rw [← HX.out]; simp only [roundF, HR1.out, Option.bind_some, HR2.out, HR3.out]
        subst hX
        exact ⟨rfl, _, HW.out, HA.out⟩
end
end Go.Proofs.YtlgemficalcghaaGreat
/- The writer's group and loop. -/
namespace Go.Proofs.YtlgemficalcghaaGreat
open Go.ChangeShapes Go.WideShapes Go.ChangeAt Go.RowKit
set_option linter.unusedVariables false
set_option linter.unusedSimpArgs false
/-- A node that was handed over, in its box; where its first kid stands. -/
structure Nb (w0 : World) (wb : Nat) (cv : Value) (bn : Nat) (d : Nq) (kb ko kc : Nat) (a : Int) (w : World) : Prop where
  box : GqBox bn d (.slice (some ⟨kb, ko, none⟩) 1 kc) w
  off : Offw w0 wb cv bn
  kid : w0.cell? ⟨kb, ko, none⟩ = some (.int .i64 a)
section
variable {w0 : World} {wb : Nat} {v cv cv1 : Value} {L : List Nq} {x : List Ins × Nat} {w w1 : World} {n bn kb ko kc : Nat} {d : Nq} {a : Int}
theorem GqBox.lt {kv : Value} (h : GqBox bn d kv w) : bn < w.heap.size := (Array.getElem?_eq_some_iff.1 h).1
theorem Nb.adv (h : Nb w0 wb cv bn d kb ko kc a w) (q : Adw wb cv w cv1 w1) : Nb w0 wb cv1 bn d kb ko kc a w1 :=
  ⟨by have := h.box; unfold GqBox at *; rw [q.fr.block bn (Array.getElem?_eq_some_iff.1 this).1 h.off.not]; exact this, h.off.adv q h.box.lt, h.kid⟩
theorem Nb.new (h : Wr w0 wb v L x cv w) (d : Nq) (hk : w0.cell? ⟨kb, ko, none⟩ = some (.int .i64 a)) : Nb w0 wb cv w.heap.size d kb ko kc a (w.alloc (nqObj d (.slice (some ⟨kb, ko, none⟩) 1 kc))) :=
  ⟨alloc_new w _, h.new (Nat.le_refl _), hk⟩
theorem Nb.c (h : Nb w0 wb cv bn d kb ko kc a w) (hw : Wr w0 wb v L x cv w) : w.cell? ⟨bn, 6, none⟩ = some (.int .i64 d.mn) ∧ w.cell? ⟨bn, 7, none⟩ = some (.int .i64 d.mx) ∧ w.cell? ⟨bn, 8, none⟩ = some (.bool d.lz) ∧ w.cell? ⟨bn, 9, none⟩ = some (.int .i64 d.n) ∧ w.cell? ⟨bn, 10, none⟩ = some (.slice (some ⟨kb, ko, none⟩) 1 kc) ∧ w.cell? ⟨kb, ko, none⟩ = some (.int .i64 a) := by
  obtain ⟨_, _, _, _, _, _, h6, h7, h8, h9, h10⟩ := h.box.cells
  exact ⟨h6, h7, h8, h9, h10, kp_cell hw.kp h.kid⟩
set_option maxHeartbeats 2000000 in
theorem group_w (hC : CodeOf w0 wb v L n) {t : PT} (ht : toT L n a = some t) (hs : t.size ≤ 1000000) (h : Wr w0 wb v L x cv w) (hx : Okx x) (hk : w0.cell? ⟨kb, ko, none⟩ = some (.int .i64 a)) (hkc : 1 ≤ kc ∧ kc ≤ maxLen) (hn : 0 ≤ d.n ∧ d.n ≤ 9) :
    Calls Tryz.prog 49 #[.pointer (some ⟨wb, 0, none⟩), d.val (.slice (some ⟨kb, ko, none⟩) 1 kc)] w (Laid w0 wb v L cv w (gGroupF d.n t x)) := by
  have HC : Hid (∀ (x : List Ins × Nat) (cv : Value) (w : World), Wr w0 wb v L x cv w → Okx x → Calls Tryz.prog 31 #[.pointer (some ⟨wb, 0, none⟩), .int .i64 a] w (Laid w0 wb v L cv w (runT t x))) := fun x cv w => hC a t x cv w ht hs
  have HL1 : Hid (∀ (x : List Ins × Nat) (cv : Value) (w : World), Wr w0 wb v L x cv w → x.1.length ≤ 2000 → Calls Tryz.prog 32 #[.pointer (some ⟨wb, 0, none⟩), .agg #[.int .u8 6, .int .u8 0, .int .u64 0, .int .u64 0, .int .u64 0, .int .u64 0, .int .i64 (2 * d.n), .int .i64 0]] w (LayP w0 wb v L cv w x.1.length (runI (saveI (2 * d.n)) x))) := fun x cv w h hx => lay_any h hx (saveI (2 * d.n))
  have HL2 : Hid (∀ (x : List Ins × Nat) (cv : Value) (w : World), Wr w0 wb v L x cv w → x.1.length ≤ 2000 → Calls Tryz.prog 32 #[.pointer (some ⟨wb, 0, none⟩), .agg #[.int .u8 6, .int .u8 0, .int .u64 0, .int .u64 0, .int .u64 0, .int .u64 0, .int .i64 (2 * d.n + 1), .int .i64 0]] w (LayP w0 wb v L cv w x.1.length (runI (saveI (2 * d.n + 1)) x))) := fun x cv w h hx => lay_any h hx (saveI (2 * d.n + 1))
  have HRd : Hid (∀ (x : List Ins × Nat) (cv : Value) (w : World), Wr w0 wb v L x cv w → Okx x → Calls Tryz.prog 76 #[.pointer (some ⟨wb, 0, none⟩), .int .i64 a] w (Laid w0 wb v L cv w (roundF t x))) := fun x cv w h hx => round_any hC ht hs h hx
  have HN : Hid (Nb w0 wb cv w.heap.size d kb ko kc a (w.alloc (nqObj d (.slice (some ⟨kb, ko, none⟩) 1 kc)))) := Nb.new h d hk
  have HW : Hid (Wr w0 wb v L x cv (w.alloc (nqObj d (.slice (some ⟨kb, ko, none⟩) 1 kc)))) := h.kpp (kp_alloc _ _)
  have HA : Hid (Adw wb cv w cv (w.alloc (nqObj d (.slice (some ⟨kb, ko, none⟩) 1 kc)))) := Adw.kp _ _ (kp_alloc _ _)
  have HO : Hid (Okx x) := hx
  obtain ⟨X, hX⟩ : ∃ X, gGroupF d.n t x = X := ⟨_, rfl⟩
  have HX : Hid (gGroupF d.n t x = X) := hX
  rw [hX]
  obtain ⟨bn, hbn⟩ : ∃ bn, w.heap.size = bn := ⟨_, rfl⟩
  rw [hbn] at HN
  clear h hC ht hX hk hx
  unfold nqObj at HN HW HA
  unfold Nq.val
  go_enter Tryz.func49, Tryz.ntmps49
  go_upto_region 1 with fail
  clear hbn
  generalize (w.alloc (.cells #[.int .u8 d.op, .int .u8 d.c, .int .u64 d.set.a, .int .u64 d.set.b, .int .u64 d.set.c, .int .u64 d.set.d, .int .i64 d.mn, .int .i64 d.mx, .bool d.lz, .int .i64 d.n, .slice (some ⟨kb, ko, none⟩) 1 kc] 91)) = wa at HN HW HA ⊢
  obtain ⟨n6, n7, n8, n9, n10, kd⟩ := HN.out.c HW.out
  unfold maxLen at hkc
  go_wp2_with fail
  cases hr1 : runI (saveI (2 * d.n)) x with
  | none =>
    have hX : X = none := by rw [← HX.out]; simp only [gGroupF, hr1, Option.bind_none]
    subst hX
    refine Calls.mono (HL1.out _ _ _ HW.out HO.out.1) ?_
    rw [hr1]
    rintro e w3 ⟨rfl, f3⟩
    have HF : Hid (Fr (Wb wb cv) w w3) := HA.out.fail f3
    unfold TooLong
    clear f3
    go_wp2_with fail
    exact ⟨rfl, rfl, HF.out⟩
  | some y1 =>
    refine Calls.mono (HL1.out _ _ _ HW.out HO.out.1) ?_
    rw [hr1]
    rintro e w1 ⟨rfl, cv1, q1, q2⟩
    replace HN : Hid (Nb w0 wb cv1 bn d kb ko kc a w1) := HN.out.adv q2
    have HW : Hid (Wr w0 wb v L y1 cv1 w1) := q1
    replace HA : Hid (Adw wb cv w cv1 w1) := HA.out.trans q2
    have HO : Hid (Okx y1) := runI_ok hr1 (by have := HO.out.2; omega)
    have HR1 : Hid (runI (saveI (2 * d.n)) x = some y1) := hr1
    clear q1 q2 hr1
    clear n6 n7 n8 n9 n10 kd
    obtain ⟨n6, n7, n8, n9, n10, kd⟩ := HN.out.c HW.out
    go_wp2_with fail
    cases hr2 : runT t y1 with
    | none =>
      have hX : X = none := by rw [← HX.out]; simp only [gGroupF, HR1.out, Option.bind_some, hr2, Option.bind_none]
      subst hX
      refine Calls.mono (HC.out _ _ _ HW.out HO.out) ?_
      rw [hr2]
      rintro e w3 ⟨rfl, f3⟩
      have HF : Hid (Fr (Wb wb cv) w w3) := HA.out.fail f3
      unfold TooLong
      clear f3
      go_wp2_with fail
      exact ⟨rfl, rfl, HF.out⟩
    | some y2 =>
      refine Calls.mono (HC.out _ _ _ HW.out HO.out) ?_
      rw [hr2]
      rintro e w2 ⟨rfl, cv2, q1, q2⟩
      replace HN : Hid (Nb w0 wb cv2 bn d kb ko kc a w2) := HN.out.adv q2
      have HW : Hid (Wr w0 wb v L y2 cv2 w2) := q1
      replace HA : Hid (Adw wb cv w cv2 w2) := HA.out.trans q2
      have HO : Hid (Okx y2) := runT_ok hr2 HO.out
      have HR2 : Hid (runT t y1 = some y2) := hr2
      clear q1 q2 hr2
      clear n6 n7 n8 n9 n10 kd
      obtain ⟨n6, n7, n8, n9, n10, kd⟩ := HN.out.c HW.out
      go_wp2_with fail
      cases hr3 : runI (saveI (2 * d.n + 1)) y2 with
      | none =>
        have hX : X = none := by rw [← HX.out]; simp only [gGroupF, HR1.out, Option.bind_some, HR2.out, hr3]
        subst hX
        refine Calls.mono (HL2.out _ _ _ HW.out HO.out.1) ?_
        rw [hr3]
        rintro e w3 ⟨rfl, f3⟩
        have HF : Hid (Fr (Wb wb cv) w w3) := HA.out.fail f3
        unfold TooLong
        clear f3
        go_wp2_with fail
        exact ⟨rfl, rfl, HF.out⟩
      | some y3 =>
        refine Calls.mono (HL2.out _ _ _ HW.out HO.out.1) ?_
        rw [hr3]
        rintro e w3 ⟨rfl, cv3, q1, q2⟩
        replace HN : Hid (Nb w0 wb cv3 bn d kb ko kc a w3) := HN.out.adv q2
        have HW : Hid (Wr w0 wb v L y3 cv3 w3) := q1
        replace HA : Hid (Adw wb cv w cv3 w3) := HA.out.trans q2
        have HO : Hid (Okx y3) := runI_ok hr3 (by have := HO.out.2; omega)
        have HR3 : Hid (runI (saveI (2 * d.n + 1)) y2 = some y3) := hr3
        clear q1 q2 hr3
        clear n6 n7 n8 n9 n10 kd
        obtain ⟨n6, n7, n8, n9, n10, kd⟩ := HN.out.c HW.out
        go_wp2_with fail
        go_end0
        have hX : X = some y3 := by rw [← HX.out]; simp only [gGroupF, HR1.out, Option.bind_some, HR2.out, HR3.out]
        subst hX
        exact ⟨rfl, _, HW.out, HA.out⟩
theorem split1_any {lz : Bool} {p : Nat} {b : Nat × Nat × Nat} (h : Wr w0 wb v L x cv w) (hc : SClo w0 wb cv lz p b w) (hp : x.1[p]? = some { op := 4 }) :
    Calls Tryz.prog 73 #[.pointer (some ⟨b.1, 0, none⟩), .pointer (some ⟨b.2.1, 0, none⟩), .pointer (some ⟨b.2.2, 0, none⟩)] w fun e w' => e = .returned (.tuple #[]) ∧ Wr w0 wb v L (x.1.set p (splitI lz p x.1.length), x.2) cv w' ∧ Adw wb cv w cv w' := by
  cases lz with
  | true => exact split1_t h hc hp
  | false => exact split1_f h hc hp
def SplP (w0 : World) (wb : Nat) (v : Value) (L : List Nq) (cv : Value) (w : World) (lz : Bool) (N : Nat) (X : Option (List Ins × Nat)) (e : Ending) (w' : World) : Prop :=
  match X with
  | some y => ∃ b1 b2 b3 cv', e = .returned (.func (.func 73) #[] #[.pointer (some ⟨b1, 0, none⟩), .pointer (some ⟨b2, 0, none⟩), .pointer (some ⟨b3, 0, none⟩)]) ∧ Wr w0 wb v L y cv' w' ∧ Adw wb cv w cv' w' ∧ SClo w0 wb cv' lz N (b1, b2, b3) w'
  | none => e = TooLong ∧ Fr (Wb wb cv) w w'
theorem split_any (h : Wr w0 wb v L x cv w) (hx : x.1.length ≤ 2000) (lz : Bool) : Calls Tryz.prog 61 #[.pointer (some ⟨wb, 0, none⟩), .bool lz] w (SplP w0 wb v L cv w lz x.1.length (runI { op := 4 } x)) := by
  unfold runI
  by_cases hl : x.1.length < 2000
  · rw [if_pos hl]
    refine (split_ok h lz hl).mono ?_
    rintro e w' ⟨⟨b1, b2, b3⟩, cv', rfl, q⟩
    exact ⟨b1, b2, b3, cv', rfl, q⟩
  · rw [if_neg hl]; exact split_no h lz (by omega)
theorem loop_get {t : PT} {N : Nat} {x y z u : List Ins × Nat} (hx : Okx x) (h1 : runI { op := 4 } x = some y) (h2 : roundF t y = some z) (h3 : runI (jumpI N) z = some u) : u.1[x.1.length]? = some { op := 4 } := by
  have hy := runI_ok h1 (by have := hx.2; omega)
  obtain ⟨_, rfl⟩ := runI_some h1
  obtain ⟨_, h4, _⟩ := roundF_some h2 hy
  obtain ⟨_, rfl⟩ := runI_some h3
  simp [h4]
set_option maxHeartbeats 2000000 in
theorem loop_w (hC : CodeOf w0 wb v L n) {t : PT} (ht : toT L n a = some t) (hs : t.size ≤ 1000000) (h : Wr w0 wb v L x cv w) (hx : Okx x) (hk : w0.cell? ⟨kb, ko, none⟩ = some (.int .i64 a)) (hkc : 1 ≤ kc ∧ kc ≤ maxLen) :
    Calls Tryz.prog 64 #[.pointer (some ⟨wb, 0, none⟩), d.val (.slice (some ⟨kb, ko, none⟩) 1 kc)] w (Laid w0 wb v L cv w (loopF d.lz t x)) := by
  obtain ⟨N, hN⟩ : ∃ N, x.1.length = N := ⟨_, rfl⟩
  have HNx : Hid (x.1.length = N) := hN
  have HOx : Hid (Okx x) := hx
  clear hN
  have HC : Hid (∀ (x : List Ins × Nat) (cv : Value) (w : World), Wr w0 wb v L x cv w → Okx x → Calls Tryz.prog 31 #[.pointer (some ⟨wb, 0, none⟩), .int .i64 a] w (Laid w0 wb v L cv w (runT t x))) := fun x cv w => hC a t x cv w ht hs
  have HL1 : Hid (∀ (x : List Ins × Nat) (cv : Value) (w : World), Wr w0 wb v L x cv w → x.1.length ≤ 2000 → Calls Tryz.prog 32 #[.pointer (some ⟨wb, 0, none⟩), .agg #[.int .u8 5, .int .u8 0, .int .u64 0, .int .u64 0, .int .u64 0, .int .u64 0, .int .i64 N, .int .i64 0]] w (LayP w0 wb v L cv w x.1.length (runI (jumpI N) x))) := fun x cv w h hx => lay_any h hx (jumpI N)
  have HRd : Hid (∀ (x : List Ins × Nat) (cv : Value) (w : World), Wr w0 wb v L x cv w → Okx x → Calls Tryz.prog 76 #[.pointer (some ⟨wb, 0, none⟩), .int .i64 a] w (Laid w0 wb v L cv w (roundF t x))) := fun x cv w h hx => round_any hC ht hs h hx
  have HN : Hid (Nb w0 wb cv w.heap.size d kb ko kc a (w.alloc (nqObj d (.slice (some ⟨kb, ko, none⟩) 1 kc)))) := Nb.new h d hk
  have HW : Hid (Wr w0 wb v L x cv (w.alloc (nqObj d (.slice (some ⟨kb, ko, none⟩) 1 kc)))) := h.kpp (kp_alloc _ _)
  have HA : Hid (Adw wb cv w cv (w.alloc (nqObj d (.slice (some ⟨kb, ko, none⟩) 1 kc)))) := Adw.kp _ _ (kp_alloc _ _)
  have HO : Hid (Okx x) := hx
  obtain ⟨X, hX⟩ : ∃ X, loopF d.lz t x = X := ⟨_, rfl⟩
  have HX : Hid (loopF d.lz t x = X) := hX
  rw [hX]
  obtain ⟨bn, hbn⟩ : ∃ bn, w.heap.size = bn := ⟨_, rfl⟩
  rw [hbn] at HN
  clear h hC ht hX hk hx
  unfold nqObj at HN HW HA
  unfold Nq.val
  go_enter Tryz.func64, Tryz.ntmps64
  go_upto_region 1 with fail
  clear hbn
  generalize (w.alloc (.cells #[.int .u8 d.op, .int .u8 d.c, .int .u64 d.set.a, .int .u64 d.set.b, .int .u64 d.set.c, .int .u64 d.set.d, .int .i64 d.mn, .int .i64 d.mx, .bool d.lz, .int .i64 d.n, .slice (some ⟨kb, ko, none⟩) 1 kc] 91)) = wa at HN HW HA ⊢
  obtain ⟨n6, n7, n8, n9, n10, kd⟩ := HN.out.c HW.out
  unfold maxLen at hkc
  go_wp2_with fail
  have HSp : Hid (Calls Tryz.prog 61 #[.pointer (some ⟨wb, 0, none⟩), .bool d.lz] wa (SplP w0 wb v L cv wa d.lz N (runI { op := 4 } x))) := by
    have := split_any HW.out HO.out.1 d.lz
    rw [HNx.out] at this
    exact this
  refine Calls.mono (here_any HW.out) ?_
  rintro e wz ⟨rfl, rfl⟩
  rw [HNx.out]
  go_wp2_with fail
  cases hr1 : runI { op := 4 } x with
  | none =>
    have hX : X = none := by rw [← HX.out]; simp only [loopF, hr1, Option.bind_none]
    subst hX
    refine Calls.mono (HSp.out) ?_
    rw [hr1]
    rintro e w3 ⟨rfl, f3⟩
    have HF : Hid (Fr (Wb wb cv) w w3) := HA.out.fail f3
    unfold TooLong
    clear f3
    go_wp2_with fail
    exact ⟨rfl, rfl, HF.out⟩
  | some y1 =>
    refine Calls.mono (HSp.out) ?_
    rw [hr1]
    rintro e w1 ⟨b1, b2, b3, cv1, rfl, q1, q2, q3⟩
    have HS : Hid (SClo w0 wb cv1 d.lz N (b1, b2, b3) w1) := q3
    clear q3
    replace HN : Hid (Nb w0 wb cv1 bn d kb ko kc a w1) := HN.out.adv q2
    have HW : Hid (Wr w0 wb v L y1 cv1 w1) := q1
    replace HA : Hid (Adw wb cv w cv1 w1) := HA.out.trans q2
    have HO : Hid (Okx y1) := runI_ok hr1 (by have := HO.out.2; omega)
    have HR1 : Hid (runI { op := 4 } x = some y1) := hr1
    clear q1 q2 hr1
    clear n6 n7 n8 n9 n10 kd
    obtain ⟨n6, n7, n8, n9, n10, kd⟩ := HN.out.c HW.out
    go_wp2_with fail
    cases hr2 : roundF t y1 with
    | none =>
      have hX : X = none := by rw [← HX.out]; simp only [loopF, HR1.out, Option.bind_some, hr2, Option.bind_none]
      subst hX
      refine Calls.mono (HRd.out _ _ _ HW.out HO.out) ?_
      rw [hr2]
      rintro e w3 ⟨rfl, f3⟩
      have HF : Hid (Fr (Wb wb cv) w w3) := HA.out.fail f3
      unfold TooLong
      clear f3
      go_wp2_with fail
      exact ⟨rfl, rfl, HF.out⟩
    | some y2 =>
      refine Calls.mono (HRd.out _ _ _ HW.out HO.out) ?_
      rw [hr2]
      rintro e w2 ⟨rfl, cv2, q1, q2⟩
      replace HN : Hid (Nb w0 wb cv2 bn d kb ko kc a w2) := HN.out.adv q2
      replace HS : Hid (SClo w0 wb cv2 d.lz N (b1, b2, b3) w2) := HS.out.adv q2
      have HW : Hid (Wr w0 wb v L y2 cv2 w2) := q1
      replace HA : Hid (Adw wb cv w cv2 w2) := HA.out.trans q2
      have HO : Hid (Okx y2) := (roundF_some hr2 HO.out).1
      have HR2 : Hid (roundF t y1 = some y2) := hr2
      clear q1 q2 hr2
      clear n6 n7 n8 n9 n10 kd
      obtain ⟨n6, n7, n8, n9, n10, kd⟩ := HN.out.c HW.out
      go_wp2_with fail
      cases hr3 : runI (jumpI N) y2 with
      | none =>
        have hX : X = none := by rw [← HX.out]; simp only [loopF, HR1.out, Option.bind_some, HR2.out, HNx.out, hr3, Option.map_none]
        subst hX
        refine Calls.mono (HL1.out _ _ _ HW.out HO.out.1) ?_
        rw [hr3]
        rintro e w3 ⟨rfl, f3⟩
        have HF : Hid (Fr (Wb wb cv) w w3) := HA.out.fail f3
        unfold TooLong
        clear f3
        go_wp2_with fail
        exact ⟨rfl, rfl, HF.out⟩
      | some y3 =>
        refine Calls.mono (HL1.out _ _ _ HW.out HO.out.1) ?_
        rw [hr3]
        rintro e w3 ⟨rfl, cv3, q1, q2⟩
        replace HN : Hid (Nb w0 wb cv3 bn d kb ko kc a w3) := HN.out.adv q2
        replace HS : Hid (SClo w0 wb cv3 d.lz N (b1, b2, b3) w3) := HS.out.adv q2
        have HW : Hid (Wr w0 wb v L y3 cv3 w3) := q1
        replace HA : Hid (Adw wb cv w cv3 w3) := HA.out.trans q2
        have HO : Hid (Okx y3) := runI_ok hr3 (by have := HO.out.2; omega)
        have HR3 : Hid (runI (jumpI N) y2 = some y3) := hr3
        clear q1 q2 hr3
        clear n6 n7 n8 n9 n10 kd
        obtain ⟨n6, n7, n8, n9, n10, kd⟩ := HN.out.c HW.out
        go_wp2_with fail
        have HP : Hid (y3.1[N]? = some { op := 4 }) := by
          have := loop_get HOx.out HR1.out HR2.out HR3.out
          rw [HNx.out] at this
          exact this
        have hsp := split1_any HW.out HS.out HP.out
        simp only at hsp
        refine Calls.mono hsp ?_
        clear hsp
        rintro e w4 ⟨rfl, q1, q2⟩
        have HF : Hid (Wr w0 wb v L _ cv3 w4 ∧ Adw wb cv w cv3 w4) := ⟨q1, HA.out.trans q2⟩
        clear q1 q2
        go_wp2_with fail
        go_end0
        have hX : X = some (y3.1.set N (splitI d.lz N y3.1.length), y3.2) := by rw [← HX.out]; simp only [loopF, HR1.out, Option.bind_some, HR2.out, HR3.out, Option.map_some, HNx.out]
        subst hX
        exact ⟨rfl, _, HF.out⟩
end
end Go.Proofs.YtlgemficalcghaaGreat
/- The writer's tries and many. -/
namespace Go.Proofs.YtlgemficalcghaaGreat
open Go.ChangeShapes Go.WideShapes Go.ChangeAt Go.RowKit
set_option linter.unusedVariables false
set_option linter.unusedSimpArgs false
def tryS (t : PT) (s : (List Ins × Nat) × List Nat) : Option ((List Ins × Nat) × List Nat) := (runI { op := 4 } s.1).bind fun y => (roundF t y).map fun z => (z, s.2 ++ [s.1.1.length])
def triesG (t : PT) : Nat → (List Ins × Nat) × List Nat → Option ((List Ins × Nat) × List Nat)
  | 0, s => some s
  | i + 1, s => (triesG t i s).bind (tryS t)
def triesF (lz : Bool) (t : PT) (M : Nat) (x : List Ins × Nat) : Option (List Ins × Nat) := (triesG t M (x, [])).map fun s => (putS lz s.1.1.length s.2 s.1.1, s.1.2)
theorem triesG_none {t : PT} {i M : Nat} {s : (List Ins × Nat) × List Nat} (h : triesG t i s = none) (hi : i ≤ M) : triesG t M s = none := by
  induction M with
  | zero => obtain rfl : i = 0 := by omega
            exact h
  | succ M ih =>
    by_cases e : i = M + 1
    · subst e; exact h
    · simp only [triesG, ih (by omega), Option.bind_none]
theorem triesG_len {t : PT} {i : Nat} {s s' : (List Ins × Nat) × List Nat} (h : triesG t i s = some s') : s'.2.length = s.2.length + i := by
  induction i generalizing s' with
  | zero => cases h; rfl
  | succ i ih =>
    simp only [triesG] at h
    cases h1 : triesG t i s with
    | none => rw [h1] at h; cases h
    | some s1 =>
      rw [h1, Option.bind_some] at h
      unfold tryS at h
      cases h2 : runI { op := 4 } s1.1 with
      | none => rw [h2] at h; cases h
      | some y =>
        rw [h2, Option.bind_some] at h
        obtain ⟨z, _, rfl⟩ := Option.map_eq_some_iff.1 h
        have := ih h1
        simp only [List.length_append, List.length_cons, List.length_nil]
        omega
/-- Places of splits that were laid, each once. -/
def TI (s : (List Ins × Nat) × List Nat) : Prop := Okx s.1 ∧ s.2.Nodup ∧ ∀ p ∈ s.2, s.1.1[p]? = some { op := 4 }
theorem tryS_TI {t : PT} {s s' : (List Ins × Nat) × List Nat} (h : tryS t s = some s') (hi : TI s) : TI s' := by
  obtain ⟨hx, hn, hp⟩ := hi
  unfold tryS at h
  cases h1 : runI { op := 4 } s.1 with
  | none => rw [h1] at h; cases h
  | some y =>
    rw [h1, Option.bind_some] at h
    obtain ⟨z, h2, rfl⟩ := Option.map_eq_some_iff.1 h
    have hy := runI_ok h1 (by have := hx.2; omega)
    obtain ⟨_, rfl⟩ := runI_some h1
    obtain ⟨hz, e, _⟩ := roundF_some h2 hy
    have hlt : ∀ p ∈ s.2, p < s.1.1.length := fun p hpm => (List.getElem?_eq_some_iff.1 (hp p hpm)).1
    refine ⟨hz, ?_, fun p hpm => ?_⟩
    · simp only
      rw [List.nodup_append]
      refine ⟨hn, by simp, fun a ha b hb => ?_⟩
      simp only [List.mem_singleton] at hb
      have := hlt a ha
      omega
    · simp only at hpm ⊢
      rw [e]
      rcases List.mem_append.1 hpm with q | q
      · have := hlt p q
        simp only [List.append_assoc]
        rw [List.getElem?_append_left (by omega)]
        exact hp p q
      · simp only [List.mem_singleton] at q
        subst q
        simp
section
variable {w0 : World} {wb : Nat} {v cv cv1 lv : Value} {L : List Nq} {x : List Ins × Nat} {w w1 w2 : World} {n bn kb ko kc : Nat} {d : Nq} {a : Int} {ps : List Nat} {lz : Bool}
theorem infoFunc : (Tryz.prog.info? 1).map (fun i => (i.zero, i.size, i.bytes)) = some (some .nilFunc, 1, 8) := by kernel_rfl
theorem row_othr {B k : Nat} {xs : List Value} (h : w.ownsRow B 1 1 lv k xs) {j : Nat} {c : Array Value} {t : TypeId} {f : Nat × Nat} (hj : w.heap[j]? = some (.cells c t f)) (ht : t ≠ 1) : lv.ownBlock ≠ some j := fun e => by
  rcases h.2 with ⟨q, _⟩ | ⟨g, cap, cur, rfl, _, hg, _⟩
  · rw [q] at e; cases e
  · simp only [Value.ownBlock, Option.some.injEq] at e
    subst e
    rw [hg] at hj
    injection hj with hj
    injection hj with h1 h2 h3
    exact ht h2.symm
/-- What is behind an append onto a list of answers. -/
structure Fpush (w0 : World) (wb : Nat) (v : Value) (L : List Nq) (x : List Ins × Nat) (cv : Value) (lv : Value) (w w2 : World) : Prop where
  wr : Wr w0 wb v L x cv w2
  fr : Fr (fun k => lv.ownBlock = some k) w w2
theorem Fpush.nb (h : Fpush w0 wb v L x cv lv w w2) (hn : Nb w0 wb cv bn d kb ko kc a w) {B k : Nat} {xs : List Value} (hr : w.ownsRow B 1 1 lv k xs) : Nb w0 wb cv bn d kb ko kc a w2 :=
  ⟨by have := hn.box; unfold GqBox at *; rw [h.fr.block bn (Array.getElem?_eq_some_iff.1 this).1 (row_othr hr this (by decide))]; exact this, hn.off, hn.kid⟩
theorem SRow.push (h : SRow w0 wb cv lz lv ps w) (hw : Wr w0 wb v L x cv w) {p : Nat} {b : Nat × Nat × Nat} (hb : SClo w0 wb cv lz p b w) {tmp : Obj} {g cap : Nat} {xs : List Value} (hxs : w.ownsRow w0.heap.size 1 1 lv ps.length xs)
    (hown : w2.ownsRow w0.heap.size 1 1 (.slice (some ⟨g, 0, none⟩) (ps.length + 1) cap) (ps.length + 1) (xs ++ [sclo b])) (hgrow : (w.alloc tmp).grownBy w2 lv.ownBlock) (hat : lv.ownBlock = some g ∨ g = w.heap.size + 1) :
    Fpush w0 wb v L x cv lv w w2 ∧ SRow w0 wb cv lz (.slice (some ⟨g, 0, none⟩) (ps.length + 1) cap) (ps ++ [p]) w2 := by
  obtain ⟨bs, h1, h2, h3, h4⟩ := h
  have hlx : xs = bs.map sclo := by
    rcases hxs.2 with ⟨e, z⟩ | ⟨g1, c1, u1, e, _, hg1, _, _, _, q1⟩
    · have l1 := hxs.1
      rw [List.eq_nil_of_length_eq_zero (by omega : xs.length = 0), List.eq_nil_of_length_eq_zero (by omega : bs.length = 0)]; rfl
    · rcases h2.2 with ⟨e', z⟩ | ⟨g2, c2, u2, e', _, hg2, _, _, _, q2⟩
      · rw [e] at e'; cases e'
      · rw [e] at e'
        injection e' with e1 e2 e3
        injection e1 with e1
        injection e1 with e1
        subst e1
        rw [hg1] at hg2
        injection hg2 with hg2
        injection hg2 with hg2
        subst hg2
        rw [← q1, ← q2]
  subst hlx
  have f : Fr (fun k => lv.ownBlock = some k) w w2 := ⟨hgrow.os, hgrow.tape, hgrow.output, Nat.le_trans (by rw [alloc_size]; omega) hgrow.size, fun j hj q => by
    rw [hgrow.block j (by rw [alloc_size]; omega) fun e => q e.symm]; exact alloc_old w tmp j hj⟩
  have hcl : ∀ {p b}, SClo w0 wb cv lz p b w → SClo w0 wb cv lz p b w2 := fun q => ⟨q.at_.fr f (row_othr h2 q.at_ (by decide)), q.wr.fr f (row_othr h2 q.wr (by decide)), q.lz.fr f (row_othr h2 q.lz (by decide)), q.off⟩
  refine ⟨⟨hw.off f fun j hj => h3 j hj, f⟩, bs ++ [b], by simp [h1], ?_, fun j hj => ?_, fun i p' b' hp' hb' => ?_⟩
  · rw [show (ps ++ [p]).length = ps.length + 1 by simp, List.map_append, List.map_singleton]
    exact hown
  · simp only [Value.ownBlock, Option.some.injEq] at hj
    subst hj
    rcases hat with e | e
    · exact h3 g e
    · exact hw.new (by omega)
  · rcases Nat.lt_or_ge i ps.length with hi | hi
    · rw [List.getElem?_append_left hi] at hp'
      rw [List.getElem?_append_left (by omega)] at hb'
      exact hcl (h4 i p' b' hp' hb')
    · rw [List.getElem?_append_right hi] at hp'
      rw [List.getElem?_append_right (by omega), h1] at hb'
      have hi0 : i - ps.length = 0 := by
        have := (List.getElem?_eq_some_iff.1 hp').1
        simpa using this
      rw [hi0] at hp' hb'
      simp only [List.getElem?_cons_zero, Option.some.injEq] at hp' hb'
      subst hp' hb'
      exact hcl hb
/-- Ahead of each round of tries. -/
def TrI (w0 : World) (wb : Nat) (v : Value) (L : List Nq) (cv : Value) (w : World) (x : List Ins × Nat) (t : PT) (d : Nq) (bn kb ko kc : Nat) (a : Int) (i : Nat) (v4 : Value) (wr : World) : Prop :=
  ∃ s cvc, triesG t i (x, []) = some s ∧ TI s ∧ Wr w0 wb v L s.1 cvc wr ∧ Adw wb cv w cvc wr ∧ Nb w0 wb cvc bn d kb ko kc a wr ∧ SRow w0 wb cvc d.lz v4 s.2 wr ∧ ∀ j, v4.ownBlock = some j → w.heap.size ≤ j
set_option maxHeartbeats 4000000 in
set_option maxRecDepth 100000 in
theorem tries_w (hC : CodeOf w0 wb v L n) {t : PT} (ht : toT L n a = some t) (hs : t.size ≤ 1000000) (h : Wr w0 wb v L x cv w) (hx : Okx x) (hk : w0.cell? ⟨kb, ko, none⟩ = some (.int .i64 a)) (hkc : 1 ≤ kc ∧ kc ≤ maxLen) (hmm : 0 ≤ d.mn ∧ d.mn ≤ d.mx ∧ d.mx ≤ 60) :
    Calls Tryz.prog 65 #[.pointer (some ⟨wb, 0, none⟩), d.val (.slice (some ⟨kb, ko, none⟩) 1 kc)] w (Laid w0 wb v L cv w (triesF d.lz t (d.mx - d.mn).toNat x)) := by
  obtain ⟨M, hM⟩ : ∃ M, (d.mx - d.mn).toNat = M := ⟨_, rfl⟩
  rw [hM]
  have hM60 : M ≤ 60 := by omega
  have hMe : d.mx - d.mn = (M : Int) := by omega
  clear hM
  have HRd : Hid (∀ (x : List Ins × Nat) (cv : Value) (w : World), Wr w0 wb v L x cv w → Okx x → Calls Tryz.prog 76 #[.pointer (some ⟨wb, 0, none⟩), .int .i64 a] w (Laid w0 wb v L cv w (roundF t x))) := fun x cv w h hx => round_any hC ht hs h hx
  have k0 : Kp w (w.alloc (nqObj d (.slice (some ⟨kb, ko, none⟩) 1 kc))) := kp_alloc _ _
  have HI : Hid (TrI w0 wb v L cv w x t d w.heap.size kb ko kc a 0 (.slice none 0 0) (w.alloc (nqObj d (.slice (some ⟨kb, ko, none⟩) 1 kc)))) :=
    ⟨(x, []), cv, rfl, ⟨hx, List.nodup_nil, fun p hp => (by cases hp)⟩, h.kpp k0, Adw.kp _ _ k0, Nb.new h d hk, ⟨[], rfl, World.ownsRow_nil _ _ _ _, fun j hj => (by cases hj), fun i p b hp => (by simp at hp)⟩, fun j hj => (by cases hj)⟩
  have hC0 := (Nb.new h d hk (kc := kc)).c (h.kpp k0)
  have HB0 : Hid (w0.heap.size ≤ w.heap.size) := h.kp.size
  obtain ⟨X, hX⟩ : ∃ X, triesF d.lz t M x = X := ⟨_, rfl⟩
  have HX : Hid (triesF d.lz t M x = X) := hX
  rw [hX]
  obtain ⟨bn, hbn⟩ : ∃ bn, w.heap.size = bn := ⟨_, rfl⟩
  rw [hbn] at HI hC0
  clear h hC ht hX hk hx k0
  unfold nqObj at HI hC0
  unfold Nq.val
  go_enter Tryz.func65, Tryz.ntmps65
  go_upto_region 1 with fail
  clear hbn
  generalize (w.alloc (.cells #[.int .u8 d.op, .int .u8 d.c, .int .u64 d.set.a, .int .u64 d.set.b, .int .u64 d.set.c, .int .u64 d.set.d, .int .i64 d.mn, .int .i64 d.mx, .bool d.lz, .int .i64 d.n, .slice (some ⟨kb, ko, none⟩) 1 kc] 91)) = wa at HI hC0 ⊢
  obtain ⟨n6, n7, n8, n9, n10, kd⟩ := hC0
  unfold maxLen at hkc
  go_wp2_with fail
  go_loopw [4, 10] (fun v4 v10 wr => ∃ i : Nat, i ≤ M ∧ v10 = .int .i64 i ∧ Hid (TrI w0 wb v L cv w x t d bn kb ko kc a i v4 wr)) (fun _ v10 _ => M - (intOf v10).toNat)
  case atStart => exact ⟨0, Nat.zero_le _, rfl, HI⟩
  case round =>
    obtain ⟨i, hi, rfl, HT⟩ := hrel
    clear n6 n7 n8 n9 n10 kd
    obtain ⟨s, cvc, hg, hti, hw, ha, hnb, hsr, hge⟩ := HT.out
    obtain ⟨bs, hb1, hb2, hb3, hb4⟩ := id hsr
    obtain ⟨la, lc, rfl, l1, l2⟩ := owns_form hb2
    obtain ⟨K, hK⟩ : ∃ K, s.2.length = K := ⟨_, rfl⟩
    have hKi : K = i := by have := triesG_len hg; simp only [List.length_nil] at this; omega
    obtain ⟨n6, n7, n8, n9, n10, kd⟩ := hnb.c hw
    obtain ⟨i9, hi9, z0, z1, z2⟩ := info_parts infoFunc
    by_cases hlt : i < M
    · have dl : decide ((i : Int) < (M : Int)) = true := decide_eq_true (by omega)
      have HAll : Hid (triesG t i (x, []) = some s ∧ TI s ∧ Wr w0 wb v L s.1 cvc wr ∧ Adw wb cv w cvc wr ∧ Nb w0 wb cvc bn d kb ko kc a wr ∧ SRow w0 wb cvc d.lz (.slice la K lc) s.2 wr ∧ (∀ j, (Value.slice la K lc).ownBlock = some j → w.heap.size ≤ j) ∧ s.2.length = K ∧ K = i) := ⟨hg, hti, hw, ha, hnb, hK ▸ hsr, hK ▸ hge, hK, hKi⟩
      rw [hK]
      have hK60 : K ≤ 60 := by omega
      clear hg hti hw ha hnb hsr hge hb1 hb2 hb3 hb4 l1 l2 hK hKi bs
      have HSp : Hid _ := split_any HAll.out.2.2.1 HAll.out.2.1.1.1 d.lz
      cases hr1 : runI { op := 4 } s.1 with
      | none =>
        have hX : X = none := by
          rw [← HX.out]
          unfold triesF
          rw [triesG_none (i := i + 1) (by simp only [triesG, HAll.out.1, Option.bind_some, tryS, hr1, Option.bind_none]) (by omega)]; rfl
        subst hX
        rw [hr1] at HSp
        go_wp2_with fail
        refine Calls.mono HSp.out ?_
        rintro e w3 ⟨rfl, f3⟩
        have HF : Hid (Fr (Wb wb cv) w w3) := HAll.out.2.2.2.1.fail f3
        unfold TooLong
        clear f3
        go_wp2_with fail
        exact ⟨rfl, rfl, HF.out⟩
      | some y1 =>
        rw [hr1] at HSp
        have HR1 : Hid (runI { op := 4 } s.1 = some y1) := hr1
        clear hr1
        go_wp2_with fail
        refine Calls.mono HSp.out ?_
        rintro e w1 ⟨b1, b2, b3, cv1, rfl, q1, q2, q3⟩
        have HQ : Hid (Wr w0 wb v L y1 cv1 w1 ∧ Adw wb cv w cv1 w1 ∧ Nb w0 wb cv1 bn d kb ko kc a w1 ∧ SRow w0 wb cv1 d.lz (.slice la K lc) s.2 w1 ∧ SClo w0 wb cv1 d.lz s.1.1.length (b1, b2, b3) w1 ∧ Okx y1) := ⟨q1, HAll.out.2.2.2.1.trans q2, HAll.out.2.2.2.2.1.adv q2, HAll.out.2.2.2.2.2.1.adv q2, q3, runI_ok HR1.out (by have := HAll.out.2.1.1.2; omega)⟩
        clear q1 q2 q3 HSp n6 n7 n8 n9 n10 kd
        obtain ⟨bs, hb1, hb2, hb3, hb4⟩ := HQ.out.2.2.2.1
        rw [HAll.out.2.2.2.2.2.2.2.1] at hb2
        have HOW : Hid ((w1.alloc (.cells #[sclo (b1, b2, b3)] 1)).ownsRow w0.heap.size 1 1 (.slice la K lc) K (bs.map sclo)) := row_kp hb2 (kp_alloc _ _)
        have HBW : Hid (w0.heap.size ≤ (w1.alloc (.cells #[sclo (b1, b2, b3)] 1)).heap.size) := by
          have := HQ.out.1.kp.size
          show w0.heap.size ≤ _
          rw [alloc_size]; omega
        have HG : Hid (∀ g cp w2, w2.ownsRow w0.heap.size 1 1 (.slice (some ⟨g, 0, none⟩) (K + 1) cp) (K + 1) (bs.map sclo ++ [sclo (b1, b2, b3)]) → (w1.alloc (.cells #[sclo (b1, b2, b3)] 1)).grownBy w2 (Value.slice la K lc).ownBlock → ((Value.slice la K lc).ownBlock = some g ∨ g = w1.heap.size + 1) →
            (w2.cell? ⟨bn, 6, none⟩ = some (.int .i64 d.mn) ∧ w2.cell? ⟨bn, 7, none⟩ = some (.int .i64 d.mx) ∧ w2.cell? ⟨bn, 8, none⟩ = some (.bool d.lz) ∧ w2.cell? ⟨bn, 9, none⟩ = some (.int .i64 d.n) ∧ w2.cell? ⟨bn, 10, none⟩ = some (.slice (some ⟨kb, ko, none⟩) 1 kc) ∧ w2.cell? ⟨kb, ko, none⟩ = some (.int .i64 a)) ∧
            Hid (Wr w0 wb v L y1 cv1 w2 ∧ Adw wb cv w cv1 w2 ∧ Nb w0 wb cv1 bn d kb ko kc a w2 ∧ SRow w0 wb cv1 d.lz (.slice (some ⟨g, 0, none⟩) (K + 1) cp) (s.2 ++ [s.1.1.length]) w2 ∧ ∀ j, (Value.slice (some ⟨g, 0, none⟩) (K + 1) cp).ownBlock = some j → w.heap.size ≤ j)) := by
          intro g cp w2 r1 r2 r3
          have hK := HAll.out.2.2.2.2.2.2.2.1
          have hp := HQ.out.2.2.2.1.push HQ.out.1 HQ.out.2.2.2.2.1 (tmp := .cells #[sclo (b1, b2, b3)] 1) (g := g) (cap := cp) (w2 := w2) (xs := bs.map sclo)
          rw [hK] at hp
          obtain ⟨p1, p2⟩ := hp hb2 r1 r2 r3
          have p3 := p1.nb HQ.out.2.2.1 hb2
          refine ⟨p3.c p1.wr, p1.wr, ⟨HQ.out.2.1.fr.trans' p1.fr fun k hk q => ?_, HQ.out.2.1.own⟩, p3, p2, fun j hj => ?_⟩
          · have := HAll.out.2.2.2.2.2.2.1 k q
            omega
          · simp only [Value.ownBlock, Option.some.injEq] at hj
            subst hj
            rcases r3 with e | e
            · exact HAll.out.2.2.2.2.2.2.1 g e
            · have := HQ.out.2.1.fr.size; omega
        clear hb1 hb2 hb3 hb4
        unfold sclo at HOW HBW HG
        simp only at HOW HBW HG
        go_wp2_with (at_builtin; refine wpList_append_lies _ rfl (.tmp 12) (.tmp 17) 107 rfl w0.heap.size 1 i9 _ 1 8 Tryz.underlying107 hi9 z0 z1 z2 rfl (by decide) (.slice la K lc) K _ rfl HOW.out ⟨w1.heap.size, 0, none⟩ 1 1 [.func (.func 73) #[] #[.pointer (some ⟨b1, 0, none⟩), .pointer (some ⟨b2, 0, none⟩), .pointer (some ⟨b3, 0, none⟩)]] rfl rfl (cell_one_new _ _ _) (by simp [Value.oneCell']) (by omega) (by unfold maxLen; omega) (by omega) HBW.out (w1.heap.size + 1) (alloc_size _ _) ?_; intro g cp w2 hown hgrow hat hlt'; obtain ⟨⟨n6, n7, n8, n9, n10, kd⟩, HF⟩ := HG.out g cp w2 hown hgrow hat; clear hown hgrow hat)
        cases hr2 : roundF t y1 with
        | none =>
          have hX : X = none := by
            rw [← HX.out]
            unfold triesF
            rw [triesG_none (i := i + 1) (by simp only [triesG, HAll.out.1, Option.bind_some, tryS, HR1.out, hr2, Option.map_none]) (by omega)]; rfl
          subst hX
          refine Calls.mono (HRd.out _ _ _ HF.out.1 HQ.out.2.2.2.2.2) ?_
          rw [hr2]
          rintro e w3 ⟨rfl, f3⟩
          have HFa : Hid (Fr (Wb wb cv) w w3) := HF.out.2.1.fail f3
          unfold TooLong
          clear f3
          go_wp2_with fail
          exact ⟨rfl, rfl, HFa.out⟩
        | some y2 =>
          refine Calls.mono (HRd.out _ _ _ HF.out.1 HQ.out.2.2.2.2.2) ?_
          rw [hr2]
          rintro e w3 ⟨rfl, cv3, q1, q2⟩
          have HT3 : Hid (TrI w0 wb v L cv w x t d bn kb ko kc a (i + 1) (.slice (some ⟨g, 0, none⟩) (K + 1) cp) w3) := by
            have hst : tryS t s = some (y2, s.2 ++ [s.1.1.length]) := by simp only [tryS, HR1.out, Option.bind_some, hr2, Option.map_some]
            refine ⟨(y2, s.2 ++ [s.1.1.length]), cv3, by simp only [triesG, HAll.out.1, Option.bind_some, hst], tryS_TI hst HAll.out.2.1, q1, HF.out.2.1.trans q2, HF.out.2.2.1.adv q2, HF.out.2.2.2.1.adv q2, HF.out.2.2.2.2⟩
          clear q1 q2 hr2
          go_wp2_with fail
          go_roundw
          case rel => exact ⟨i + 1, by omega, by go_num, HT3⟩
          case measure =>
            simp only [intOf]
            omega
    · have hiM : i = M := by omega
      subst hiM
      have dl : decide ((i : Int) < (i : Int)) = false := by simp
      have HAll : Hid (triesG t i (x, []) = some s ∧ TI s ∧ Wr w0 wb v L s.1 cvc wr ∧ Adw wb cv w cvc wr ∧ SRow w0 wb cvc d.lz (.slice la K lc) s.2 wr) := ⟨hg, hti, hw, ha, hK ▸ hsr⟩
      rw [hK]
      have HCall : Hid (Calls Tryz.prog 63 #[.slice la K lc] wr fun e w' => e = .returned (.tuple #[]) ∧ Wr w0 wb v L (putS d.lz s.1.1.length s.2 s.1.1, s.1.2) cvc w' ∧ Adw wb cvc wr cvc w') := by
        have hsr' := HAll.out.2.2.2.2
        cases hlz : d.lz with
        | true => rw [hlz] at hsr'; exact callAll_st hw hsr' hti.2.1 hti.2.2
        | false => rw [hlz] at hsr'; exact callAll_sf hw hsr' hti.2.1 hti.2.2
      clear hg hti hw ha hnb hsr hge hb1 hb2 hb3 hb4 l1 l2 hK hKi bs
      go_wp2_with fail
      refine Calls.mono HCall.out ?_
      rintro e w3 ⟨rfl, q1, q2⟩
      have HF : Hid (Wr w0 wb v L (putS d.lz s.1.1.length s.2 s.1.1, s.1.2) cvc w3 ∧ Adw wb cv w cvc w3) := ⟨q1, HAll.out.2.2.2.1.trans q2⟩
      clear q1 q2 HCall
      go_wp2_with fail
      go_end0
      have hX : X = some (putS d.lz s.1.1.length s.2 s.1.1, s.1.2) := by rw [← HX.out]; unfold triesF; rw [HAll.out.1]; rfl
      subst hX
      exact ⟨rfl, _, HF.out⟩
end
end Go.Proofs.YtlgemficalcghaaGreat
/- The writer's many and branches. -/
namespace Go.Proofs.YtlgemficalcghaaGreat
open Go.ChangeShapes Go.WideShapes Go.ChangeAt Go.RowKit
set_option linter.unusedVariables false
set_option linter.unusedSimpArgs false
def iterT (t : PT) : Nat → List Ins × Nat → Option (List Ins × Nat)
  | 0, x => some x
  | i + 1, x => (iterT t i x).bind (runT t)
def gManyF (mn mx : Int) (lz : Bool) (t : PT) (x : List Ins × Nat) : Option (List Ins × Nat) :=
  (iterT t mn.toNat x).bind fun y => if mx < 0 then loopF lz t y else triesF lz t (mx - mn).toNat y
theorem iterT_none {t : PT} {i M : Nat} {x : List Ins × Nat} (h : iterT t i x = none) (hi : i ≤ M) : iterT t M x = none := by
  induction M with
  | zero => obtain rfl : i = 0 := by omega
            exact h
  | succ M ih =>
    by_cases e : i = M + 1
    · subst e; exact h
    · simp only [iterT, ih (by omega), Option.bind_none]
/-- One branch but the last: a split, its code, a jump; the split is told where the next one begins. -/
def gBrS (t : PT) (s : (List Ins × Nat) × List Nat) : Option ((List Ins × Nat) × List Nat) :=
  (runI { op := 4 } s.1).bind fun y => (runT t y).bind fun z => (runI { op := 5 } z).map fun u => ((u.1.set s.1.1.length (splitI false s.1.1.length u.1.length), u.2), s.2 ++ [z.1.length])
def gBrG : List PT → (List Ins × Nat) × List Nat → Option ((List Ins × Nat) × List Nat)
  | [], s => some s
  | t :: ts, s => (gBrS t s).bind (gBrG ts)
theorem gBrG_append (us bs : List PT) (s : (List Ins × Nat) × List Nat) : gBrG (us ++ bs) s = (gBrG us s).bind (gBrG bs) := by
  induction us generalizing s with
  | nil => rfl
  | cons a us ih =>
    simp only [List.cons_append, gBrG]
    cases gBrS a s with
    | none => rfl
    | some s' => simp only [Option.bind_some]; exact ih s'
def gBrF (ts : List PT) (x : List Ins × Nat) : Option (List Ins × Nat) :=
  (gBrG ts.dropLast (x, [])).bind fun s => (runT (ts.getLast?.getD .empty) s.1).map fun y => (putJ y.1.length s.2 y.1, y.2)
/-- Places of jumps that were laid, each once. -/
def TJ (s : (List Ins × Nat) × List Nat) : Prop := Okx s.1 ∧ s.2.Nodup ∧ ∀ p ∈ s.2, s.1.1[p]? = some { op := 5 }
theorem runT_some {t : PT} {x y : List Ins × Nat} (h : runT t x = some y) : y = (x.1 ++ t.code x.1.length x.2, x.2 + t.rnd) := by
  unfold runT at h
  split at h
  · cases h; rfl
  · cases h
theorem gBrS_TJ {t : PT} {s s' : (List Ins × Nat) × List Nat} (h : gBrS t s = some s') (hi : TJ s) : TJ s' := by
  obtain ⟨hx, hn, hp⟩ := hi
  unfold gBrS at h
  cases h1 : runI { op := 4 } s.1 with
  | none => rw [h1] at h; cases h
  | some y =>
    rw [h1, Option.bind_some] at h
    cases h2 : runT t y with
    | none => rw [h2] at h; cases h
    | some z =>
      rw [h2, Option.bind_some] at h
      obtain ⟨u, h3, rfl⟩ := Option.map_eq_some_iff.1 h
      have hy := runI_ok h1 (by have := hx.2; omega)
      have hz := runT_ok h2 hy
      have hu := runI_ok h3 (by have := hz.2; omega)
      obtain ⟨_, rfl⟩ := runI_some h1
      obtain rfl := runT_some h2
      obtain ⟨_, rfl⟩ := runI_some h3
      have hlt : ∀ p ∈ s.2, p < s.1.1.length := fun p hpm => (List.getElem?_eq_some_iff.1 (hp p hpm)).1
      refine ⟨⟨by simpa using hu.1, by simpa using hu.2⟩, ?_, fun p hpm => ?_⟩
      · simp only
        rw [List.nodup_append]
        refine ⟨hn, by simp, fun a ha b hb => ?_⟩
        simp only [List.mem_singleton, List.length_append, List.length_cons, List.length_nil] at hb
        have := hlt a ha
        omega
      · simp only at hpm ⊢
        rcases List.mem_append.1 hpm with q | q
        · have := hlt p q
          rw [List.getElem?_set_ne (by omega)]
          simp only [List.append_assoc]
          rw [List.getElem?_append_left (by omega)]
          exact hp p q
        · simp only [List.mem_singleton] at q
          subst q
          rw [List.getElem?_set_ne (by simp only [List.length_append, List.length_cons, List.length_nil]; omega)]
          simp
theorem gBrG_len {ts : List PT} {s s' : (List Ins × Nat) × List Nat} (h : gBrG ts s = some s') : s'.2.length = s.2.length + ts.length := by
  induction ts generalizing s with
  | nil => cases h; rfl
  | cons t ts ih =>
    simp only [gBrG] at h
    cases h1 : gBrS t s with
    | none => rw [h1] at h; cases h
    | some s1 =>
      rw [h1, Option.bind_some] at h
      have h2 := ih h
      unfold gBrS at h1
      cases h3 : runI { op := 4 } s.1 with
      | none => rw [h3] at h1; cases h1
      | some y =>
        rw [h3, Option.bind_some] at h1
        cases h4 : runT t y with
        | none => rw [h4] at h1; cases h1
        | some z =>
          rw [h4, Option.bind_some] at h1
          obtain ⟨u, _, rfl⟩ := Option.map_eq_some_iff.1 h1
          simp only [List.length_append, List.length_cons, List.length_nil] at h2 ⊢
          omega
section
variable {w0 : World} {wb : Nat} {v cv cv1 lv : Value} {L : List Nq} {x : List Ins × Nat} {w w1 w2 : World} {n bn kb ko kc : Nat} {d : Nq} {a : Int} {ps : List Nat} {lz : Bool}
theorem JRow.push (h : JRow w0 wb cv lv ps w) (hw : Wr w0 wb v L x cv w) {p : Nat} {b : Nat × Nat} (hb : JClo w0 wb cv p b w) {tmp : Obj} {g cap : Nat} {xs : List Value} (hxs : w.ownsRow w0.heap.size 1 1 lv ps.length xs)
    (hown : w2.ownsRow w0.heap.size 1 1 (.slice (some ⟨g, 0, none⟩) (ps.length + 1) cap) (ps.length + 1) (xs ++ [jclo b])) (hgrow : (w.alloc tmp).grownBy w2 lv.ownBlock) (hat : lv.ownBlock = some g ∨ g = w.heap.size + 1) :
    Fpush w0 wb v L x cv lv w w2 ∧ JRow w0 wb cv (.slice (some ⟨g, 0, none⟩) (ps.length + 1) cap) (ps ++ [p]) w2 := by
  obtain ⟨bs, h1, h2, h3, h4⟩ := h
  have hlx : xs = bs.map jclo := by
    rcases hxs.2 with ⟨e, z⟩ | ⟨g1, c1, u1, e, _, hg1, _, _, _, q1⟩
    · have l1 := hxs.1
      rw [List.eq_nil_of_length_eq_zero (by omega : xs.length = 0), List.eq_nil_of_length_eq_zero (by omega : bs.length = 0)]; rfl
    · rcases h2.2 with ⟨e', z⟩ | ⟨g2, c2, u2, e', _, hg2, _, _, _, q2⟩
      · rw [e] at e'; cases e'
      · rw [e] at e'
        injection e' with e1 e2 e3
        injection e1 with e1
        injection e1 with e1
        subst e1
        rw [hg1] at hg2
        injection hg2 with hg2
        injection hg2 with hg2
        subst hg2
        rw [← q1, ← q2]
  subst hlx
  have f : Fr (fun k => lv.ownBlock = some k) w w2 := ⟨hgrow.os, hgrow.tape, hgrow.output, Nat.le_trans (by rw [alloc_size]; omega) hgrow.size, fun j hj q => by
    rw [hgrow.block j (by rw [alloc_size]; omega) fun e => q e.symm]; exact alloc_old w tmp j hj⟩
  have hcl : ∀ {p b}, JClo w0 wb cv p b w → JClo w0 wb cv p b w2 := fun q => ⟨q.wr.fr f (row_othr h2 q.wr (by decide)), q.at_.fr f (row_othr h2 q.at_ (by decide)), q.off⟩
  refine ⟨⟨hw.off f fun j hj => h3 j hj, f⟩, bs ++ [b], by simp [h1], ?_, fun j hj => ?_, fun i p' b' hp' hb' => ?_⟩
  · rw [show (ps ++ [p]).length = ps.length + 1 by simp, List.map_append, List.map_singleton]
    exact hown
  · simp only [Value.ownBlock, Option.some.injEq] at hj
    subst hj
    rcases hat with e | e
    · exact h3 g e
    · exact hw.new (by omega)
  · rcases Nat.lt_or_ge i ps.length with hi | hi
    · rw [List.getElem?_append_left hi] at hp'
      rw [List.getElem?_append_left (by omega)] at hb'
      exact hcl (h4 i p' b' hp' hb')
    · rw [List.getElem?_append_right hi] at hp'
      rw [List.getElem?_append_right (by omega), h1] at hb'
      have hi0 : i - ps.length = 0 := by
        have := (List.getElem?_eq_some_iff.1 hp').1
        simpa using this
      rw [hi0] at hp' hb'
      simp only [List.getElem?_cons_zero, Option.some.injEq] at hp' hb'
      subst hp' hb'
      exact hcl hb
def JmpP (w0 : World) (wb : Nat) (v : Value) (L : List Nq) (cv : Value) (w : World) (N : Nat) (X : Option (List Ins × Nat)) (e : Ending) (w' : World) : Prop :=
  match X with
  | some y => ∃ b1 b2 cv', e = .returned (.func (.func 75) #[] #[.pointer (some ⟨b1, 0, none⟩), .pointer (some ⟨b2, 0, none⟩)]) ∧ Wr w0 wb v L y cv' w' ∧ Adw wb cv w cv' w' ∧ JClo w0 wb cv' N (b1, b2) w'
  | none => e = TooLong ∧ Fr (Wb wb cv) w w'
theorem jump_any (h : Wr w0 wb v L x cv w) (hx : x.1.length ≤ 2000) : Calls Tryz.prog 62 #[.pointer (some ⟨wb, 0, none⟩)] w (JmpP w0 wb v L cv w x.1.length (runI { op := 5 } x)) := by
  unfold runI
  by_cases hl : x.1.length < 2000
  · rw [if_pos hl]
    refine (jump_ok h hl).mono ?_
    rintro e w' ⟨⟨b1, b2⟩, cv', rfl, q⟩
    exact ⟨b1, b2, cv', rfl, q⟩
  · rw [if_neg hl]; exact jump_no h (by omega)
/-- Ahead of each round of many. -/
def MaI (w0 : World) (wb : Nat) (v : Value) (L : List Nq) (cv : Value) (w : World) (x : List Ins × Nat) (t : PT) (d : Nq) (bn kb ko kc : Nat) (a : Int) (i : Nat) (wr : World) : Prop :=
  ∃ y cvc, iterT t i x = some y ∧ Okx y ∧ Wr w0 wb v L y cvc wr ∧ Adw wb cv w cvc wr ∧ Nb w0 wb cvc bn d kb ko kc a wr
set_option maxHeartbeats 4000000 in
set_option maxRecDepth 100000 in
theorem many_w (hC : CodeOf w0 wb v L n) {t : PT} (ht : toT L n a = some t) (hs : t.size ≤ 1000000) (h : Wr w0 wb v L x cv w) (hx : Okx x) (hk : w0.cell? ⟨kb, ko, none⟩ = some (.int .i64 a)) (hkc : 1 ≤ kc ∧ kc ≤ maxLen) (hmm : 0 ≤ d.mn ∧ d.mn ≤ 60 ∧ d.mx ≤ 60 ∧ (d.mx < 0 ∨ d.mn ≤ d.mx)) :
    Calls Tryz.prog 48 #[.pointer (some ⟨wb, 0, none⟩), d.val (.slice (some ⟨kb, ko, none⟩) 1 kc)] w (Laid w0 wb v L cv w (gManyF d.mn d.mx d.lz t x)) := by
  have HLo : Hid (∀ (x : List Ins × Nat) (cv : Value) (w : World), Wr w0 wb v L x cv w → Okx x → Calls Tryz.prog 64 #[.pointer (some ⟨wb, 0, none⟩), .agg #[.int .u8 d.op, .int .u8 d.c, .int .u64 d.set.a, .int .u64 d.set.b, .int .u64 d.set.c, .int .u64 d.set.d, .int .i64 d.mn, .int .i64 d.mx, .bool d.lz, .int .i64 d.n, .slice (some ⟨kb, ko, none⟩) 1 kc]] w (Laid w0 wb v L cv w (loopF d.lz t x))) := fun x cv w h hx => loop_w hC ht hs h hx hk hkc
  have HTr : Hid (0 ≤ d.mx → ∀ (x : List Ins × Nat) (cv : Value) (w : World), Wr w0 wb v L x cv w → Okx x → Calls Tryz.prog 65 #[.pointer (some ⟨wb, 0, none⟩), .agg #[.int .u8 d.op, .int .u8 d.c, .int .u64 d.set.a, .int .u64 d.set.b, .int .u64 d.set.c, .int .u64 d.set.d, .int .i64 d.mn, .int .i64 d.mx, .bool d.lz, .int .i64 d.n, .slice (some ⟨kb, ko, none⟩) 1 kc]] w (Laid w0 wb v L cv w (triesF d.lz t (d.mx - d.mn).toNat x))) := fun hq x cv w h hx => tries_w hC ht hs h hx hk hkc ⟨hmm.1, by omega, hmm.2.2.1⟩
  have HC : Hid (∀ (x : List Ins × Nat) (cv : Value) (w : World), Wr w0 wb v L x cv w → Okx x → Calls Tryz.prog 31 #[.pointer (some ⟨wb, 0, none⟩), .int .i64 a] w (Laid w0 wb v L cv w (runT t x))) := fun x cv w => hC a t x cv w ht hs
  have k0 : Kp w (w.alloc (nqObj d (.slice (some ⟨kb, ko, none⟩) 1 kc))) := kp_alloc _ _
  have HI : Hid (MaI w0 wb v L cv w x t d w.heap.size kb ko kc a 0 (w.alloc (nqObj d (.slice (some ⟨kb, ko, none⟩) 1 kc)))) :=
    ⟨x, cv, rfl, hx, h.kpp k0, Adw.kp _ _ k0, Nb.new h d hk⟩
  have n6 := ((Nb.new h d hk (kc := kc)).c (h.kpp k0)).1
  obtain ⟨M, hM⟩ : ∃ M, d.mn.toNat = M := ⟨_, rfl⟩
  have hMe : d.mn = (M : Int) := by omega
  have HMe : Hid (d.mn = (M : Int)) := hMe
  have hM60 : M ≤ 60 := by omega
  obtain ⟨X, hX⟩ : ∃ X, gManyF d.mn d.mx d.lz t x = X := ⟨_, rfl⟩
  have HX : Hid (gManyF d.mn d.mx d.lz t x = X ∧ d.mn.toNat = M) := ⟨hX, hM⟩
  have HSZ : Hid (w.heap.size < (w.alloc (nqObj d (.slice (some ⟨kb, ko, none⟩) 1 kc))).heap.size) := by show _ < _; rw [alloc_size]; omega
  rw [hX]
  rw [hMe] at n6
  obtain ⟨bn, hbn⟩ : ∃ bn, w.heap.size = bn := ⟨_, rfl⟩
  rw [hbn] at HI n6
  clear h hC ht hX hk hx k0 hM hMe
  unfold nqObj at HI n6 HSZ
  unfold Nq.val
  go_enter Tryz.func48, Tryz.ntmps48
  go_upto_region 1 with fail
  clear hbn
  generalize (w.alloc (.cells #[.int .u8 d.op, .int .u8 d.c, .int .u64 d.set.a, .int .u64 d.set.b, .int .u64 d.set.c, .int .u64 d.set.d, .int .i64 d.mn, .int .i64 d.mx, .bool d.lz, .int .i64 d.n, .slice (some ⟨kb, ko, none⟩) 1 kc] 91)) = wa at HI n6 HSZ ⊢
  unfold maxLen at hkc
  go_wp2_with fail
  go_loopw [6] (fun v6 wr => ∃ i : Nat, i ≤ M ∧ v6 = .int .i64 i ∧ Hid (MaI w0 wb v L cv w x t d bn kb ko kc a i wr)) (fun v6 _ => M - (intOf v6).toNat)
  case atStart => exact ⟨0, Nat.zero_le _, rfl, HI⟩
  case round =>
    obtain ⟨i, hi, rfl, HT⟩ := hrel
    clear n6
    obtain ⟨y, cvc, hg, hy, hw, ha, hnb⟩ := HT.out
    obtain ⟨n0, n1, n2, n3, n4, n5, n6, n7, n8, n9, n10⟩ := hnb.box.cells
    have kd := kp_cell hw.kp hnb.kid
    have HAll : Hid (iterT t i x = some y ∧ Okx y ∧ Wr w0 wb v L y cvc wr ∧ Adw wb cv w cvc wr ∧ Nb w0 wb cvc bn d kb ko kc a wr) := ⟨hg, hy, hw, ha, hnb⟩
    clear hg hy hw ha hnb
    by_cases hlt : i < M
    · have dl : decide ((i : Int) < (M : Int)) = true := decide_eq_true (by omega)
      cases hr : runT t y with
      | none =>
        have hX : X = none := by
          rw [← HX.out.1]
          unfold gManyF
          rw [iterT_none (i := i + 1) (by simp only [iterT, HAll.out.1, Option.bind_some, hr]) (by have := HX.out.2; omega)]; rfl
        subst hX
        go_wp2_with fail
        refine Calls.mono (HC.out _ _ _ HAll.out.2.2.1 HAll.out.2.1) ?_
        rw [hr]
        rintro e w3 ⟨rfl, f3⟩
        have HF : Hid (Fr (Wb wb cv) w w3) := HAll.out.2.2.2.1.fail f3
        unfold TooLong
        clear f3
        go_wp2_with fail
        exact ⟨rfl, rfl, HF.out⟩
      | some y1 =>
        go_wp2_with fail
        refine Calls.mono (HC.out _ _ _ HAll.out.2.2.1 HAll.out.2.1) ?_
        rw [hr]
        rintro e w3 ⟨rfl, cv3, q1, q2⟩
        have HT3 : Hid (MaI w0 wb v L cv w x t d bn kb ko kc a (i + 1) w3) := ⟨y1, cv3, by simp only [iterT, HAll.out.1, Option.bind_some, hr], runT_ok hr HAll.out.2.1, q1, HAll.out.2.2.2.1.trans q2, HAll.out.2.2.2.2.adv q2⟩
        clear q1 q2 hr
        go_wp2_with fail
        go_roundw
        case rel => exact ⟨i + 1, by omega, by go_num, HT3⟩
        case measure =>
          simp only [intOf]
          omega
    · have hiM : i = M := by omega
      subst hiM
      have dl : decide ((i : Int) < (i : Int)) = false := by simp
      by_cases hmx : d.mx < 0
      · have HF : Hid (Calls Tryz.prog 64 #[.pointer (some ⟨wb, 0, none⟩), .agg #[.int .u8 d.op, .int .u8 d.c, .int .u64 d.set.a, .int .u64 d.set.b, .int .u64 d.set.c, .int .u64 d.set.d, .int .i64 d.mn, .int .i64 d.mx, .bool d.lz, .int .i64 d.n, .slice (some ⟨kb, ko, none⟩) 1 kc]] wr (Laid w0 wb v L cvc wr X)) := by
          have := HLo.out _ _ _ HAll.out.2.2.1 HAll.out.2.1
          rw [← HX.out.1]
          unfold gManyF
          rw [HX.out.2, HAll.out.1, Option.bind_some, if_pos hmx]
          exact this
        go_wp2_with fail
        refine Calls.mono HF.out ?_
        intro e w3 q
        have HQ : Hid (Laid w0 wb v L cv w X e w3) := q.ahead HAll.out.2.2.2.1
        clear q HF
        cases X with
        | none =>
          obtain ⟨rfl, f3⟩ := HQ.out
          have HFa : Hid _ := f3
          unfold TooLong
          clear f3
          go_wp2_with fail
          exact ⟨rfl, rfl, HFa.out⟩
        | some x' =>
          obtain ⟨rfl, q3⟩ := HQ.out
          have HFa : Hid _ := q3
          clear q3
          go_wp2_with fail
          refine bodyPost_ret (results_none rfl _ _ _) rfl ?_
          exact ⟨rfl, HFa.out⟩
      · have hmx0 : 0 ≤ d.mx := by omega
        have HF : Hid (Calls Tryz.prog 65 #[.pointer (some ⟨wb, 0, none⟩), .agg #[.int .u8 d.op, .int .u8 d.c, .int .u64 d.set.a, .int .u64 d.set.b, .int .u64 d.set.c, .int .u64 d.set.d, .int .i64 d.mn, .int .i64 d.mx, .bool d.lz, .int .i64 d.n, .slice (some ⟨kb, ko, none⟩) 1 kc]] wr (Laid w0 wb v L cvc wr X)) := by
          have := HTr.out hmx0 _ _ _ HAll.out.2.2.1 HAll.out.2.1
          rw [← HX.out.1]
          unfold gManyF
          rw [HX.out.2, HAll.out.1, Option.bind_some, if_neg hmx]
          exact this
        have dmx : decide (d.mx < 0) = false := decide_eq_false hmx
        clear hmx
        go_wp2_with fail
        refine Calls.mono HF.out ?_
        intro e w3 q
        have HQ : Hid (Laid w0 wb v L cv w X e w3) := q.ahead HAll.out.2.2.2.1
        clear q HF
        cases X with
        | none =>
          obtain ⟨rfl, f3⟩ := HQ.out
          have HFa : Hid _ := f3
          unfold TooLong
          clear f3
          go_wp2_with fail
          exact ⟨rfl, rfl, HFa.out⟩
        | some x' =>
          obtain ⟨rfl, q3⟩ := HQ.out
          have HFa : Hid _ := q3
          clear q3
          go_wp2_with fail
          go_end0
          exact ⟨rfl, HFa.out⟩
end
end Go.Proofs.YtlgemficalcghaaGreat
