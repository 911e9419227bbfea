/- Texts that the proof of the law stands on: Fr4, Hb0, RGm0, Gd1, Gd2, Gd3, Gd4, Gd5, Gd6. -/
import Derived.Test.YtalmajiflmejcaaGreatPartG
import Derived.Test.YtalmajiflmejcaaGreatPartA
import Derived.Test.YtalmajiflmejcaaGreatPartD
import Derived.BigCall
import Derived.BigQuiet
import Derived.BigRegion
import Derived.Deep.AppendLies
import Derived.Deep.Cut
import Derived.Deep.CutRange
import Derived.Deep.MidRow
import Derived.Deep.QuietTactic
import Derived.Deep.RegionHeld3
import Derived.Deep.RegionLaw
import Derived.Deep.RegionWith
import Derived.Laws.AppendOwn
import Derived.Lib.Slices
import Derived.Lib.Walk
import Derived.LoopTactic
import Derived.RegionTactic
import Derived.WalkKit
import Derived.WalkLawsBesides
/- The document's check of nodes: Sound. -/
namespace Go.Proofs.YtalmajiflmejcaaGreat
open Go.ChangeShapes Go.WideShapes Go.ChangeAt Go.RowKit
set_option linter.unusedVariables false
set_option linter.unusedSimpArgs false
section
variable {v : Value} {L : List Nq} {root G cs : Int} {w : World}
theorem infoBool : (Tryz.prog.info? 4).map (fun i => (i.zero, i.size, i.bytes)) = some (some (.bool false), 1, 1) := by kernel_rfl
set_option maxRecDepth 100000 in
theorem make_bools (n : Nat) (hn : n ≤ 10000000) (w : World) : (Instr.makeSlice 202 (.int .i64 n) (.int .i64 n)).run Tryz.prog w = .ok (.slice (some ⟨w.heap.size, 0, none⟩) n n) (w.alloc (.cells ((List.replicate n false).map Value.bool).toArray 4)) := by
  obtain ⟨i9, hi9, z0, z1, z2⟩ := info_parts infoBool
  have := run_makeSlice (P := Tryz.prog) w 202 4 i9 _ Tryz.underlying202 hi9 z0 .i64 .i64 n n (by omega) (by omega) (by rw [z1, Int.toNat_natCast]; omega) (by rw [z2]; omega) (by omega)
  rw [this, Int.toNat_natCast, z1]
  congr 3
  simp only [madeCells, List.map_replicate]
  apply Array.ext
  · simp
  · intro k h1 h2
    simp [Value.cells, Nat.mod_one]
theorem alloc3 (w : World) (x y z : Obj) : Kp w (((w.alloc x).alloc y).alloc z).drew ∧ (((w.alloc x).alloc y).alloc z).drew.heap[w.heap.size]? = some x ∧ (((w.alloc x).alloc y).alloc z).drew.heap[w.heap.size + 1]? = some y ∧ (((w.alloc x).alloc y).alloc z).drew.heap[w.heap.size + 1 + 1]? = some z := by
  refine ⟨kp_trans (kp_trans (kp_trans (kp_alloc _ _) (kp_alloc _ _)) (kp_alloc _ _)) (kp_drew _), ?_, ?_, ?_⟩
  · show (((w.alloc x).alloc y).alloc z).heap[w.heap.size]? = some x
    rw [alloc_old _ _ _ (by simp only [alloc_size]; omega), alloc_old _ _ _ (by simp only [alloc_size]; omega)]
    exact alloc_new w _
  · show (((w.alloc x).alloc y).alloc z).heap[w.heap.size + 1]? = some y
    rw [alloc_old _ _ _ (by simp only [alloc_size]; omega)]
    have := alloc_new (w.alloc x) y
    rw [alloc_size] at this
    exact this
  · show (((w.alloc x).alloc y).alloc z).heap[w.heap.size + 1 + 1]? = some z
    have := alloc_new ((w.alloc x).alloc y) z
    rw [alloc_size, alloc_size] at this
    exact this
set_option maxHeartbeats 4000000 in
set_option maxRecDepth 100000 in
theorem fsound_any (h : Pt w v L) (hL : L.length ≤ 1000000) : Calls Tryz.prog 79 #[.agg #[v, .int .i64 root, .int .i64 G, .int .u8 cs]] w fun e w' => e = .returned (.bool (sndR L root G)) ∧ Kp w w' := by
  obtain ⟨R, hR⟩ : ∃ R, sndR L root G = R := ⟨_, rfl⟩
  rw [hR]
  have HR : Hid (R = sndR L root G) := hR.symm
  clear hR
  obtain ⟨va, vc, rfl, v1, v2, v3⟩ := h
  have HP : Hid (Pt w (.slice va L.length vc) L) := ⟨va, vc, rfl, v1, v2, v3⟩
  clear v3
  obtain ⟨N, hN⟩ : ∃ N, L.length = N := ⟨_, rfl⟩
  have HN : Hid (L.length = N) := hN
  rw [hN] at v1 hL
  have HLL : Hid (L.length ≤ 1000000) := by show _ ≤ _; omega
  rw [hN]
  unfold maxLen at v2
  clear hN
  have hMk := make_bools N (by omega)
  go_enter Tryz.func79, Tryz.ntmps79
  go_upto_region 1 with fail
  go_region
  have HW : Hid (Wk w (w.heap.size + 1 + 1) (w.heap.size + 1) (.slice va L.length vc) L root G cs (List.replicate L.length false) (((w.alloc (.cells #[.slice va N vc, .int .i64 root, .int .i64 G, .int .u8 cs] 92)).alloc (.cells (Array.replicate N (.bool false)) 4)).alloc (.cells #[.slice va N vc, .int .i64 root, .int .i64 G, .int .u8 cs, .slice (some ⟨w.heap.size + 1, 0, none⟩) N N] 204)).drew ∧ Lc 92 w.heap.size [.slice va N vc, .int .i64 root, .int .i64 G, .int .u8 cs] (((w.alloc (.cells #[.slice va N vc, .int .i64 root, .int .i64 G, .int .u8 cs] 92)).alloc (.cells (Array.replicate N (.bool false)) 4)).alloc (.cells #[.slice va N vc, .int .i64 root, .int .i64 G, .int .u8 cs, .slice (some ⟨w.heap.size + 1, 0, none⟩) N N] 204)).drew) := by
    obtain ⟨q1, q2, q3, q4⟩ := alloc3 w (.cells #[.slice va N vc, .int .i64 root, .int .i64 G, .int .u8 cs] 92) (.cells (Array.replicate N (.bool false)) 4) (.cells #[.slice va N vc, .int .i64 root, .int .i64 G, .int .u8 cs, .slice (some ⟨w.heap.size + 1, 0, none⟩) N N] 204)
    have hn := HN.out
    refine ⟨⟨HP.out, q1, ⟨by omega, by omega, by omega⟩, ?_, ?_, by simp⟩, q2⟩
    · rw [hn]; exact q4
    · rw [hn, List.map_replicate]
      unfold Lc
      rw [q3, List.toArray_replicate]
  obtain ⟨W, hW⟩ : ∃ W, (((w.alloc (.cells #[.slice va N vc, .int .i64 root, .int .i64 G, .int .u8 cs] 92)).alloc (.cells (Array.replicate N (.bool false)) 4)).alloc (.cells #[.slice va N vc, .int .i64 root, .int .i64 G, .int .u8 cs, .slice (some ⟨w.heap.size + 1, 0, none⟩) N N] 204)).drew = W := ⟨_, rfl⟩
  rw [hW] at HW ⊢
  clear hW hMk
  have p0 : W.cell? ⟨w.heap.size, 1, none⟩ = some (.int .i64 root) := HW.out.2.at rfl
  have p2 : W.cell? ⟨w.heap.size, 2, none⟩ = some (.int .i64 G) := HW.out.2.at rfl
  by_cases t1 : 0 ≤ G
  · have g1 : decide (G ≥ 0) = true := decide_eq_true t1
    have g1' : decide (0 ≤ G) = true := decide_eq_true t1
    by_cases t2 : G ≤ 9
    · have g2 : decide (G ≤ 9) = true := decide_eq_true t2
      obtain ⟨RW, hRW⟩ : ∃ RW, wlk L G (L.length + 1) root (List.replicate L.length false) = RW := ⟨_, rfl⟩
      have HC : Hid (Calls Tryz.prog 115 #[.pointer (some ⟨w.heap.size + 1 + 1, 0, none⟩), .int .i64 root] W fun e w' => e = .returned (.bool RW.1) ∧ Kp w w') := by
        have := wsound_any HLL.out (L.length + 1) (k := root) HW.out.1 (by have := List.count_le_length (a := false) (l := List.replicate L.length false); simp only [List.length_replicate] at this; omega)
        rw [hRW] at this
        exact Calls.mono this fun e w' q => ⟨q.1, q.2.1.kp⟩
      have HRX : Hid (R = RW.1) := by
        show _ = _
        rw [HR.out, ← hRW]; unfold sndR; rw [decide_eq_true ⟨t1, t2⟩, Bool.true_and]
      clear hRW
      go_wp2_with fail
      refine Calls.mono HC.out ?_
      rintro e w5 ⟨rfl, q1⟩
      have H5 : Hid (Kp w w5) := q1
      clear q1 p0 p2
      go_wp2_with fail
      go_ret
      rw [HRX.out]
      exact ⟨rfl, H5.out⟩
    · have g2 : decide (G ≤ 9) = false := decide_eq_false t2
      have HRX : Hid (R = false) := by
        show _ = _
        rw [HR.out]; unfold sndR; rw [decide_eq_false (by omega), Bool.false_and]
      go_wp2_with fail
      go_ret
      rw [HRX.out]
      exact ⟨rfl, HW.out.1.kp⟩
  · have g1 : decide (G ≥ 0) = false := decide_eq_false t1
    have g1' : decide (0 ≤ G) = false := decide_eq_false t1
    have HRX : Hid (R = false) := by
      show _ = _
      rw [HR.out]; unfold sndR; rw [decide_eq_false (by omega), Bool.false_and]
    go_wp2_with fail
    go_ret
    rw [HRX.out]
    exact ⟨rfl, HW.out.1.kp⟩
end
end Go.Proofs.YtalmajiflmejcaaGreat
/- An instruction as it lies; rows and boxes are told apart by their types. -/
namespace Go.Proofs.YtalmajiflmejcaaGreat
open Go.ChangeShapes Go.WideShapes Go.ChangeAt Go.RowKit
set_option linter.unusedVariables false
set_option linter.unusedSimpArgs false
/-- An instruction. -/
structure Ins where
  op : Nat
  c : Nat := 0
  set : S4 := zeroS
  x : Int := 0
  y : Int := 0
def Ins.cells (d : Ins) : List Value :=
  [.int .u8 d.op, .int .u8 d.c, .int .u64 d.set.a, .int .u64 d.set.b, .int .u64 d.set.c, .int .u64 d.set.d, .int .i64 d.x, .int .i64 d.y]
def Ins.val (d : Ins) : Value :=
  .agg #[.int .u8 d.op, .int .u8 d.c, .int .u64 d.set.a, .int .u64 d.set.b, .int .u64 d.set.c, .int .u64 d.set.d, .int .i64 d.x, .int .i64 d.y]
def flatI (ns : List Ins) : List Value := ns.flatMap fun x => x.cells
theorem flatI_snoc (ns : List Ins) (d : Ins) : flatI (ns ++ [d]) = flatI ns ++ d.cells := by simp [flatI]
theorem flatI_len (ns : List Ins) : (flatI ns).length = ns.length * 8 := by
  induction ns with
  | nil => rfl
  | cons m ms ih =>
    unfold flatI at *
    rw [List.flatMap_cons, List.length_append, ih, List.length_cons]
    have : m.cells.length = 8 := rfl
    omega
theorem flatI_get {ns : List Ins} {i : Nat} {d : Ins} (h : ns[i]? = some d) (j : Nat) (hj : j < 8) : (flatI ns)[i * 8 + j]? = d.cells[j]? := by
  induction ns generalizing i with
  | nil => simp at h
  | cons m ms ih =>
    have hl : m.cells.length = 8 := rfl
    unfold flatI
    rw [List.flatMap_cons]
    cases i with
    | zero =>
      simp only [List.getElem?_cons_zero, Option.some.injEq] at h; subst h
      rw [List.getElem?_append_left (by rw [hl]; omega)]
      simp
    | succ i =>
      simp only [List.getElem?_cons_succ] at h
      rw [List.getElem?_append_right (by rw [hl]; omega)]
      have : (i + 1) * 8 + j - m.cells.length = i * 8 + j := by rw [hl]; omega
      rw [this]; exact ih h
theorem flatI_set {ns : List Ins} {i : Nat} {d e : Ins} (h : ns[i]? = some d) (j : Nat) (hj : j < 8) (u : Value) (he : e.cells = d.cells.set j u) : flatI (ns.set i e) = (flatI ns).set (i * 8 + j) u := by
  induction ns generalizing i with
  | nil => simp at h
  | cons m ms ih =>
    have hl : m.cells.length = 8 := rfl
    unfold flatI
    cases i with
    | zero =>
      simp only [List.getElem?_cons_zero, Option.some.injEq] at h; subst h
      simp only [List.set_cons_zero, List.flatMap_cons]
      rw [he, List.set_append, if_pos (by rw [hl]; omega), Nat.zero_mul, Nat.zero_add]
    | succ i =>
      simp only [List.getElem?_cons_succ] at h
      simp only [List.set_cons_succ, List.flatMap_cons]
      rw [List.set_append, if_neg (by rw [hl]; omega)]
      have : (i + 1) * 8 + j - m.cells.length = i * 8 + j := by rw [hl]; omega
      rw [this]
      congr 1
      exact ih h
section
variable {w w1 : World} {v : Value}
theorem row_fr {B : Nat} {e : TypeId} {size n : Nat} {xs : List Value} {S : Nat → Prop} (hr : w.ownsRow B e size v n xs) (h : Fr S w w1) (hn : ∀ j, v.ownBlock = some j → ¬ S j) : w1.ownsRow B e size v n xs := by
  refine ⟨hr.1, ?_⟩
  rcases hr.2 with q | ⟨b, cap, cur, rfl, hb, hg, rest⟩
  · exact .inl q
  · exact .inr ⟨b, cap, cur, rfl, hb, by rw [h.block b (hr.lt b rfl).2 (hn b rfl)]; exact hg, rest⟩
end
section
variable {w w1 : World} {u u' : Value} {T T' : TypeId} {m m' : Nat} {l l' : List Value}
theorem row_ne {B n size : Nat} {e : TypeId} {xs : List Value} (hr : w.ownsRow B e size u n xs) (hm : Lc T m l w) (hT : T ≠ e) : u.ownBlock ≠ some m := by
  intro q
  rcases hr.2 with ⟨z, _⟩ | ⟨b, cap, cur, z, hb, hg, _⟩
  · rw [z] at q; cases q
  · rw [z] at q
    simp only [Value.ownBlock, Option.some.injEq] at q
    subst q
    unfold Lc at hm
    rw [hm] at hg
    injection hg with hg
    injection hg with _ hg
    exact hT hg
theorem row_row {B n size B' n' size' : Nat} {e e' : TypeId} {xs xs' : List Value} (hr : w.ownsRow B e size u n xs) (hr' : w.ownsRow B' e' size' u' n' xs') (hT : e ≠ e') : ∀ j, u.ownBlock = some j → u'.ownBlock ≠ some j := by
  intro j q q'
  rcases hr.2 with ⟨z, _⟩ | ⟨b, cap, cur, z, hb, hg, _⟩
  · rw [z] at q; cases q
  rcases hr'.2 with ⟨z', _⟩ | ⟨b', cap', cur', z', hb', hg', _⟩
  · rw [z'] at q'; cases q'
  rw [z] at q
  rw [z'] at q'
  simp only [Value.ownBlock, Option.some.injEq] at q q'
  subst q
  subst q'
  rw [hg] at hg'
  injection hg' with hg'
  injection hg' with _ hg'
  exact hT hg'
theorem lc_ne (h : Lc T m l w) (h' : Lc T' m' l' w) (hT : T ≠ T') : m ≠ m' := by
  rintro rfl
  unfold Lc at h h'
  rw [h] at h'
  injection h' with h'
  injection h' with _ h'
  exact hT h'
end
end Go.Proofs.YtalmajiflmejcaaGreat
/- The document's code of a pattern's tree, as a list of instructions: plain. -/
namespace Go.Proofs.YtalmajiflmejcaaGreat
open Go.ChangeShapes Go.WideShapes Go.ChangeAt Go.RowKit
set_option linter.unusedVariables false
set_option linter.unusedSimpArgs false
/-- A pattern as a tree. -/
inductive PT where
  | empty
  | leaf (i : Ins)
  | seq (a b : PT)
  | alt (a b : PT)
  | many (mn : Nat) (mx : Option Nat) (lz : Bool) (k : PT)
  | group (n : Int) (k : PT)
def splitI (lz : Bool) (p e : Nat) : Ins := if lz then { op := 4, x := e, y := (p : Int) + 1 } else { op := 4, x := (p : Int) + 1, y := e }
def jumpI (e : Nat) : Ins := { op := 5, x := e }
def startI (r : Nat) : Ins := { op := 12, x := r }
def goneI (r : Nat) : Ins := { op := 13, x := r }
def saveI (x : Int) : Ins := { op := 6, x := x }
def PT.len : PT → Nat
  | .empty => 0
  | .leaf _ => 1
  | .seq a b => a.len + b.len
  | .alt a b => a.len + b.len + 2
  | .many mn mx _ k => mn * k.len + (match mx with | none => k.len + 4 | some m => (m - mn) * (k.len + 3))
  | .group _ k => k.len + 2
def PT.rnd : PT → Nat
  | .empty => 0
  | .leaf _ => 0
  | .seq a b => a.rnd + b.rnd
  | .alt a b => a.rnd + b.rnd
  | .many mn mx _ k => mn * k.rnd + (match mx with | none => k.rnd + 1 | some m => (m - mn) * (k.rnd + 1))
  | .group _ k => k.rnd
def copiesC (f : Nat → Nat → List Ins) (l q : Nat) : Nat → Nat → Nat → List Ins
  | 0, _, _ => []
  | n + 1, p, r => f p r ++ copiesC f l q n (p + l) (r + q)
/-- Tries of a kid, one behind the other; 's': the split at a place. -/
def triesC (f : Nat → Nat → List Ins) (l q : Nat) (s : Nat → Ins) : Nat → Nat → Nat → List Ins
  | 0, _, _ => []
  | n + 1, p, r => s p :: startI r :: f (p + 2) (r + 1) ++ goneI r :: triesC f l q s n (p + l + 3) (r + q + 1)
def PT.code : PT → Nat → Nat → List Ins
  | .empty, _, _ => []
  | .leaf i, _, _ => [i]
  | .seq a b, p, r => a.code p r ++ b.code (p + a.len) (r + a.rnd)
  | .alt a b, p, r => splitI false p (p + a.len + 2) :: a.code (p + 1) r ++ jumpI (p + a.len + b.len + 2) :: b.code (p + a.len + 2) (r + a.rnd)
  | .many mn mx lz k, p, r => copiesC k.code k.len k.rnd mn p r ++
      (match mx with
       | none => splitI lz (p + mn * k.len) (p + mn * k.len + k.len + 4) :: startI (r + mn * k.rnd) :: k.code (p + mn * k.len + 2) (r + mn * k.rnd + 1) ++ [goneI (r + mn * k.rnd), jumpI (p + mn * k.len)]
       | some m => triesC k.code k.len k.rnd (fun a => splitI lz a (p + mn * k.len + (m - mn) * (k.len + 3))) (m - mn) (p + mn * k.len) (r + mn * k.rnd))
  | .group n k, p, r => saveI (2 * n) :: k.code (p + 1) r ++ [saveI (2 * n + 1)]
theorem copiesC_len (f : Nat → Nat → List Ins) (l q : Nat) (hf : ∀ p r, (f p r).length = l) (n p r : Nat) : (copiesC f l q n p r).length = n * l := by
  induction n generalizing p r with
  | zero => simp [copiesC]
  | succ n ih => simp only [copiesC, List.length_append, hf, ih, Nat.succ_mul]; omega
theorem triesC_len (f : Nat → Nat → List Ins) (l q : Nat) (s : Nat → Ins) (hf : ∀ p r, (f p r).length = l) (n p r : Nat) : (triesC f l q s n p r).length = n * (l + 3) := by
  induction n generalizing p r with
  | zero => simp [triesC]
  | succ n ih => simp only [triesC, List.length_append, List.length_cons, hf, ih, Nat.succ_mul]; omega
theorem PT.code_len (t : PT) (p r : Nat) : (t.code p r).length = t.len := by
  induction t generalizing p r with
  | empty => rfl
  | leaf i => rfl
  | seq a b iha ihb => simp [PT.code, PT.len, iha, ihb]
  | alt a b iha ihb => simp [PT.code, PT.len, iha, ihb]; omega
  | many mn mx lz k ih =>
    cases mx with
    | none => simp [PT.code, PT.len, ih, copiesC_len _ _ _ ih]
    | some m => simp [PT.code, PT.len, copiesC_len _ _ _ ih, triesC_len _ _ _ _ ih]
  | group n k ih => simp [PT.code, PT.len, ih]
/-- What has been laid, and how many rounds; what comes of one more tree. -/
def runT (t : PT) (x : List Ins × Nat) : Option (List Ins × Nat) :=
  if x.1.length + t.len ≤ 2000 then some (x.1 ++ t.code x.1.length x.2, x.2 + t.rnd) else none
theorem runT_empty (x : List Ins × Nat) (h : x.1.length ≤ 2000) : runT .empty x = some x := by simp [runT, PT.len, PT.code, PT.rnd, h]
theorem runT_seq (a b : PT) (x : List Ins × Nat) : runT (.seq a b) x = (runT a x).bind (runT b) := by
  unfold runT
  by_cases h : x.1.length + a.len ≤ 2000
  · rw [if_pos h, Option.bind_some]
    by_cases h2 : x.1.length + (a.len + b.len) ≤ 2000
    · rw [if_pos (by simpa [PT.len] using h2), if_pos (by simp [PT.code_len]; omega)]
      simp only [List.length_append, PT.code_len, PT.len, PT.code, PT.rnd, List.append_assoc, Nat.add_assoc]
    · rw [if_neg (by simpa [PT.len] using h2), if_neg (by simp [PT.code_len]; omega)]
  · rw [if_neg h, if_neg (by simp only [PT.len]; omega), Option.bind_none]
theorem runT_ge {t : PT} {x y : List Ins × Nat} (h : runT t x = some y) : y.1.length ≤ 2000 := by
  unfold runT at h
  split at h
  · cases h; simp [PT.code_len]; assumption
  · cases h
theorem copies_rnd (a b k : Nat) (h : a ≤ b) : k * a ≤ k * b := Nat.mul_le_mul_left k h
theorem PT.rnd_le (t : PT) : t.rnd ≤ t.len := by
  induction t with
  | empty => simp [PT.rnd]
  | leaf i => simp [PT.rnd]
  | seq a b iha ihb => simp only [PT.rnd, PT.len]; omega
  | alt a b iha ihb => simp only [PT.rnd, PT.len]; omega
  | many mn mx lz k ih =>
    have h1 := copies_rnd _ _ mn ih
    cases mx with
    | none => simp only [PT.rnd, PT.len]; omega
    | some m =>
      have h2 := copies_rnd (k.rnd + 1) (k.len + 3) (m - mn) (by omega)
      simp only [PT.rnd, PT.len]; omega
  | group n k ih => simp only [PT.rnd, PT.len]; omega
/-- Not too long; no more rounds than instructions. -/
def Okx (x : List Ins × Nat) : Prop := x.1.length ≤ 2000 ∧ x.2 ≤ x.1.length
theorem runT_ok {t : PT} {x y : List Ins × Nat} (h : runT t x = some y) (hx : Okx x) : Okx y := by
  refine ⟨runT_ge h, ?_⟩
  unfold runT at h
  have := t.rnd_le
  have := hx.2
  split at h
  · cases h; simp only [List.length_append, PT.code_len]; omega
  · cases h
/-- One behind the other. -/
def seqOf : List PT → PT
  | [] => .empty
  | t :: ts => .seq t (seqOf ts)
theorem runT_seqOf_append (us bs : List PT) (x : List Ins × Nat) (hx : x.1.length ≤ 2000) : runT (seqOf (us ++ bs)) x = (runT (seqOf us) x).bind (runT (seqOf bs)) := by
  induction us generalizing x with
  | nil => simp [seqOf, runT_empty x hx]
  | cons a us ih =>
    simp only [List.cons_append, seqOf, runT_seq]
    cases h : runT a x with
    | none => rfl
    | some y => simp only [Option.bind_some]; exact ih y (runT_ge h)
/-- The instruction of a node that has no kids. -/
def leafI (d : Nq) : Ins :=
  if d.op = 2 then { op := 1, c := d.c } else if d.op = 4 then { op := 3, set := d.set } else if d.op = 10 then { op := 8 } else if d.op = 11 then { op := 9 } else if d.op = 12 then { op := 10 }
  else if d.op = 13 then { op := 11 } else if d.op = 14 then { op := 6, x := 20 } else if d.op = 15 then { op := 6, x := 21 } else if d.op = 9 then { op := 7, x := d.n } else { op := 2 }
def mapT (f : Int → Option PT) : List Int → Option (List PT)
  | [] => some []
  | a :: r => (f a).bind fun t => (mapT f r).map fun ts => t :: ts
def altOf : List PT → PT
  | [] => .empty
  | [t] => t
  | t :: u :: ts => .alt t (altOf (u :: ts))
/-- The tree at a node. -/
def toT (L : List Nq) : Nat → Int → Option PT
  | 0, _ => none
  | n + 1, a =>
    if hasB L a then
      let d := nodeAt L a
      if d.op = 5 then if 1 ≤ d.kids.length then (mapT (toT L n) d.kids).map seqOf else none
      else if d.op = 1 then some .empty
      else if d.op = 6 then if 1 ≤ d.kids.length then (mapT (toT L n) d.kids).map altOf else none
      else if d.op = 7 then if d.kids.length = 1 ∧ 0 ≤ d.mn ∧ d.mn ≤ 60 ∧ d.mx ≤ 60 ∧ (d.mx < 0 ∨ d.mn ≤ d.mx) then (toT L n (d.kids.headD 0)).map (.many d.mn.toNat (if d.mx < 0 then none else some d.mx.toNat) d.lz) else none
      else if d.op = 8 then if d.kids.length = 1 ∧ 0 ≤ d.n ∧ d.n ≤ 9 then (toT L n (d.kids.headD 0)).map (.group d.n) else none
      else some (.leaf (leafI d))
    else none
end Go.Proofs.YtalmajiflmejcaaGreat
/- The document's writer in memory: its struct, its list of instructions; lay. -/
namespace Go.Proofs.YtalmajiflmejcaaGreat
open Go.ChangeShapes Go.WideShapes Go.ChangeAt Go.RowKit
set_option linter.unusedVariables false
set_option linter.unusedSimpArgs false
/-- What a writer has laid; its rounds; was there too much? -/
structure Ds where
  c : List Ins
  r : Nat
  lg : Bool
/-- The document's writer: its nodes 'L' are read as they lay in w0. -/
structure Dw (w0 : World) (wb : Nat) (v : Value) (L : List Nq) (root G cs : Int) (x : Ds) (cv : Value) (w : World) : Prop where
  kp : Kp w0 w
  pt : Pt w0 v L
  ge : w0.heap.size ≤ wb
  st : Lc 172 wb [v, .int .i64 root, .int .i64 G, .int .u8 cs, cv, .int .i64 x.r, .bool x.lg] w
  row : w.ownsRow w0.heap.size 110 8 cv x.c.length (flatI x.c)
  apart : cv.ownBlock ≠ some wb
/-- The writer's struct, and its list. -/
def Wb (wb : Nat) (cv : Value) (k : Nat) : Prop := k = wb ∨ cv.ownBlock = some k
structure Adw (wb : Nat) (cv : Value) (w : World) (cv' : Value) (w' : World) : Prop where
  fr : Fr (Wb wb cv) w w'
  own : cv'.ownBlock = cv.ownBlock ∨ ∀ j, cv'.ownBlock = some j → w.heap.size ≤ j
/-- One more; its place. -/
def layE (d : Ins) (x : Ds) : Nat × Ds := if 2000 < x.c.length then (0, { x with lg := true }) else (x.c.length, { x with c := x.c ++ [d] })
/-- What a call on the writer comes to. -/
def Lay (w0 : World) (wb : Nat) (v : Value) (L : List Nq) (root G cs : Int) (cv : Value) (w : World) (x : Ds) (w' : World) : Prop := ∃ cv', Dw w0 wb v L root G cs x cv' w' ∧ Adw wb cv w cv' w'
section
variable {w0 : World} {wb : Nat} {v cv cv1 cv2 : Value} {L : List Nq} {root G cs : Int} {x : Ds} {w w1 w2 : World}
theorem Adw.refl (wb : Nat) (cv : Value) (w : World) : Adw wb cv w cv w := ⟨Fr.refl _ w, .inl rfl⟩
theorem Adw.trans (h : Adw wb cv w cv1 w1) (h' : Adw wb cv1 w1 cv2 w2) : Adw wb cv w cv2 w2 := by
  refine ⟨h.fr.trans' h'.fr fun k hk hq => ?_, ?_⟩
  · rcases hq with hq | hq
    · exact .inl hq
    · rcases h.own with e | e
      · exact .inr (by rw [← e]; exact hq)
      · exact absurd (e k hq) (by omega)
  · rcases h'.own with e | e
    · rw [e]; exact h.own
    · exact .inr fun j hj => Nat.le_trans h.fr.size (e j hj)
theorem Adw.kp (cv : Value) (wb : Nat) (k : Kp w w1) : Adw wb cv w cv w1 := ⟨Fr.of_below k, .inl rfl⟩
theorem Lay.ahead (a : Adw wb cv w cv1 w1) (h : Lay w0 wb v L root G cs cv1 w1 x w2) : Lay w0 wb v L root G cs cv w x w2 := by
  obtain ⟨cv', h1, h2⟩ := h
  exact ⟨cv', h1, a.trans h2⟩
theorem Dw.below (h : Dw w0 wb v L root G cs x cv w) : ∀ k, k < w0.heap.size → ¬ Wb wb cv k := fun k hk q => by
  rcases q with q | q
  · have := h.ge; omega
  · have := (h.row.lt k q).1; omega
theorem Dw.kpf (h : Dw w0 wb v L root G cs x cv w) (f : Fr (Wb wb cv) w w1) : Kp w0 w1 := h.kp.trans (f.below h.kp.size h.below)
theorem Dw.off (h : Dw w0 wb v L root G cs x cv w) {S : Nat → Prop} (f : Fr S w w1) (hS : ∀ j, S j → w0.heap.size ≤ j ∧ j ≠ wb ∧ cv.ownBlock ≠ some j) : Dw w0 wb v L root G cs x cv w1 :=
  ⟨h.kp.trans (f.below h.kp.size fun k hk q => by have := (hS k q).1; omega), h.pt, h.ge, h.st.fr f fun q => (hS _ q).2.1 rfl,
   row_fr h.row f fun j hj q => (hS j q).2.2 hj, h.apart⟩
theorem Dw.kpp (h : Dw w0 wb v L root G cs x cv w) (k : Kp w w1) : Dw w0 wb v L root G cs x cv w1 :=
  ⟨kp_trans h.kp k, h.pt, h.ge, h.st.kp k, row_kp h.row k, h.apart⟩
theorem Dw.setLg (h : Dw w0 wb v L root G cs x cv w) (b : Bool) : Dw w0 wb v L root G cs { x with lg := b } cv (w.setCell ⟨wb, 6, none⟩ (.bool b)) ∧ Adw wb cv w cv (w.setCell ⟨wb, 6, none⟩ (.bool b)) := by
  have f1 : Fr (On wb) w (w.setCell ⟨wb, 6, none⟩ (.bool b)) := fr_set _ _ _ _
  exact ⟨⟨kp_new h.kp h.ge, h.pt, h.ge, h.st.set 6 _, row_fr h.row f1 (fun j hj q => h.apart (by rw [hj, q])), h.apart⟩, ⟨f1.mono fun _ _ q => .inl q, .inl rfl⟩⟩
theorem Dw.setR (h : Dw w0 wb v L root G cs x cv w) (r : Nat) : Dw w0 wb v L root G cs { x with r := r } cv (w.setCell ⟨wb, 5, none⟩ (.int .i64 r)) ∧ Adw wb cv w cv (w.setCell ⟨wb, 5, none⟩ (.int .i64 r)) := by
  have f1 : Fr (On wb) w (w.setCell ⟨wb, 5, none⟩ (.int .i64 r)) := fr_set _ _ _ _
  exact ⟨⟨kp_new h.kp h.ge, h.pt, h.ge, h.st.set 5 _, row_fr h.row f1 (fun j hj q => h.apart (by rw [hj, q])), h.apart⟩, ⟨f1.mono fun _ _ q => .inl q, .inl rfl⟩⟩
theorem infoInst : (Tryz.prog.info? 110).map (fun i => (i.zero, i.size, i.bytes)) = some (some (.agg #[.int .u8 0, .int .u8 0, .int .u64 0, .int .u64 0, .int .u64 0, .int .u64 0, .int .i64 0, .int .i64 0]), 8, 56) := by kernel_rfl
def instObj (d : Ins) : Obj := .cells #[.int .u8 d.op, .int .u8 d.c, .int .u64 d.set.a, .int .u64 d.set.b, .int .u64 d.set.c, .int .u64 d.set.d, .int .i64 d.x, .int .i64 d.y] 110
/-- An instruction more: what is to be shown behind the append. -/
theorem Dw.grow (h : Dw w0 wb v L root G cs x cv w) {d : Ins} {w1 w2 : World} (k : Kp w w1) {g cap : Nat}
    (hown : w2.ownsRow w0.heap.size 110 8 (.slice (some ⟨g, 0, none⟩) (x.c.length + 1) cap) (x.c.length + 1) (flatI x.c ++ d.cells)) (hg : w1.grownBy w2 cv.ownBlock) (hat : cv.ownBlock = some g ∨ g = w1.heap.size) (hlt : g < w2.heap.size) :
    (w2.cell? ⟨wb, 4, none⟩ = some cv ∧ w2.frozen? ⟨wb, 4, none⟩ = false) ∧ Dw w0 wb v L root G cs { x with c := x.c ++ [d] } (.slice (some ⟨g, 0, none⟩) (x.c.length + 1) cap) (w2.setCell ⟨wb, 4, none⟩ (.slice (some ⟨g, 0, none⟩) (x.c.length + 1) cap)) ∧
      Adw wb cv w (.slice (some ⟨g, 0, none⟩) (x.c.length + 1) cap) (w2.setCell ⟨wb, 4, none⟩ (.slice (some ⟨g, 0, none⟩) (x.c.length + 1) cap)) := by
  have hrb : wb < w1.heap.size := Nat.lt_of_lt_of_le h.st.lt k.size
  have hgr : g ≠ wb := by
    rcases hat with e | e
    · exact fun q => h.apart (by rw [e, q])
    · omega
  have hst : Lc 172 wb [v, .int .i64 root, .int .i64 G, .int .u8 cs, cv, .int .i64 x.r, .bool x.lg] w2 := h.st.heap (by rw [hg.block wb hrb (fun e => h.apart e.symm)]; exact k.block wb h.st.lt)
  have ha : Adw wb cv w (.slice (some ⟨g, 0, none⟩) (x.c.length + 1) cap) (w2.setCell ⟨wb, 4, none⟩ (.slice (some ⟨g, 0, none⟩) (x.c.length + 1) cap)) := by
    refine ⟨?_, ?_⟩
    · have f1 : Fr (Wb wb cv) w w2 := ⟨hg.os.trans k.os, hg.tape.trans k.tape, hg.output.trans k.output, Nat.le_trans k.size hg.size, fun j hj hn => by
        rw [hg.block j (Nat.lt_of_lt_of_le hj k.size) (fun e => hn (.inr e.symm))]; exact k.block j hj⟩
      exact f1.trans (Fr.setCell (S := Wb wb cv) (.inl rfl) w2)
    · rcases hat with e | e
      · exact .inl (by rw [e]; rfl)
      · exact .inr fun j hj => by
          simp only [Value.ownBlock, Option.some.injEq] at hj
          rw [← hj, e]; exact k.size
  refine ⟨⟨hst.at rfl, hst.fz _⟩, ⟨h.kpf ha.fr, h.pt, h.ge, hst.set 4 _, ?_, ?_⟩, ha⟩
  · have hr := hown
    rw [show (x.c ++ [d]).length = x.c.length + 1 by simp, flatI_snoc]
    refine ⟨hr.1, ?_⟩
    rcases hr.2 with ⟨q, _⟩ | ⟨b, c, cur, e, hb, hq, rest⟩
    · cases q
    · refine .inr ⟨b, c, cur, e, hb, ?_, rest⟩
      injection e with e _ _
      injection e with e
      injection e with e _ _
      rw [heap_setCell_other (by rw [← e]; exact hgr)]; exact hq
  · simp only [Value.ownBlock, ne_eq, Option.some.injEq]; exact hgr
set_option maxHeartbeats 1000000 in
set_option maxRecDepth 100000 in
theorem dlay_ok (h : Dw w0 wb v L root G cs x cv w) (d : Ins) (hl : x.c.length ≤ 2000) :
    Calls Tryz.prog 81 #[.pointer (some ⟨wb, 0, none⟩), d.val] w fun e w' => e = .returned (.int .i64 x.c.length) ∧ Lay w0 wb v L root G cs cv w { x with c := x.c ++ [d] } w' := by
  obtain ⟨va, vc, rfl, v1, v2⟩ := owns_form h.row
  obtain ⟨N, hN⟩ : ∃ N, x.c.length = N := ⟨_, rfl⟩
  rw [hN] at hl ⊢
  obtain ⟨i9, hi9, z0, z1, z2⟩ := info_parts infoInst
  have c1 : w.cell? ⟨wb, 4, none⟩ = _ := h.st.at rfl
  have f1 := h.st.fz 4
  rw [hN] at c1 v1
  have HB : Hid (w0.heap.size ≤ w.heap.size) := h.kp.size
  have HO : Hid (w.ownsRow w0.heap.size 110 8 (.slice va N vc) N (flatI x.c)) := by have := h.row; rw [hN] at this; exact this
  have HG : Hid (∀ w1, Kp w w1 → ∀ g cap w2, w2.ownsRow w0.heap.size 110 8 (.slice (some ⟨g, 0, none⟩) (N + 1) cap) (N + 1) (flatI x.c ++ d.cells) → w1.grownBy w2 (Value.slice va N vc).ownBlock → ((Value.slice va N vc).ownBlock = some g ∨ g = w1.heap.size) → g < w2.heap.size →
      (w2.cell? ⟨wb, 4, none⟩ = some (.slice va N vc) ∧ w2.frozen? ⟨wb, 4, none⟩ = false) ∧ Hid (Dw w0 wb v L root G cs { x with c := x.c ++ [d] } (.slice (some ⟨g, 0, none⟩) (N + 1) cap) (w2.setCell ⟨wb, 4, none⟩ (.slice (some ⟨g, 0, none⟩) (N + 1) cap)) ∧
      Adw wb (.slice va N vc) w (.slice (some ⟨g, 0, none⟩) (N + 1) cap) (w2.setCell ⟨wb, 4, none⟩ (.slice (some ⟨g, 0, none⟩) (N + 1) cap)))) := by
    intro w1 k g cap w2 q1 q2 q3 q4
    have h' := h
    rw [hN] at h'
    have := h'.grow (d := d) k (g := g) (cap := cap) (w2 := w2)
    rw [hN] at this
    exact this q1 q2 q3 q4
  unfold maxLen at v2
  unfold Ins.val
  have HK : Hid (Kp w (((w.alloc (instObj d)).alloc (instObj d)).drew)) := kp_trans (kp_trans (kp_alloc w _) (kp_alloc _ _)) (kp_drew _)
  have HSZ : Hid ((((w.alloc (instObj d)).alloc (instObj d)).drew).heap.size = w.heap.size + 2) := by show (((w.alloc (instObj d)).alloc (instObj d)).drew).heap.size = w.heap.size + 2; rw [drew_heap, alloc_size, alloc_size]
  have HOW : Hid ((((w.alloc (instObj d)).alloc (instObj d)).drew).ownsRow w0.heap.size 110 8 (.slice va N vc) N (flatI x.c)) := row_kp HO.out HK.out
  have HNEW : Hid (∀ j u, (d.cells)[j]? = some u → (((w.alloc (instObj d)).alloc (instObj d)).drew).cell? ((⟨w.heap.size + 1, 0, none⟩ : Addr).add j) = some u) := by
    intro j u hj
    have e : w.heap.size + 1 = (w.alloc (instObj d)).heap.size := by rw [alloc_size]
    rw [Addr.add_lit, e]
    have := alloc_new (w.alloc (instObj d)) (instObj d)
    rw [← drew_heap] at this
    unfold instObj at this ⊢
    rw [cell_at this, Nat.zero_add]
    rw [← hj]; exact List.getElem?_toArray
  have HONE : Hid (∀ u ∈ d.cells, u.oneCell' = true) := by
    intro u hu
    simp only [Ins.cells, List.mem_cons, List.not_mem_nil, or_false] at hu
    rcases hu with rfl | rfl | rfl | rfl | rfl | rfl | rfl | rfl <;> rfl
  have HBW : Hid (w0.heap.size ≤ (((w.alloc (instObj d)).alloc (instObj d)).drew).heap.size) := by have := HSZ.out; have := HB.out; show w0.heap.size ≤ _; omega
  have hrb : wb < w.heap.size := h.st.lt
  have d0 : decide ((N : Int) > 2000) = false := decide_eq_false (by omega)
  have d0' : decide ((2000 : Int) < (N : Int)) = false := decide_eq_false (by omega)
  have d0n : decide (2000 < N) = false := decide_eq_false (by omega)
  clear h hN
  go_enter Tryz.func81, Tryz.ntmps81
  go_upto_region 4 with fail
  go_region_law ((refine step_append_lies _ (by rfl) (.tmp 18) (.tmp 20) 30 rfl w0.heap.size 110 i9 _ 8 56 Tryz.underlying30 hi9 z0 z1 z2 rfl (by decide) (.slice va N vc) N (flatI x.c) (by rfl) HOW.out ⟨w.heap.size + 1, 0, none⟩ 1 1 (d.cells) (by rfl) rfl HNEW.out HONE.out (by omega) (by unfold maxLen; omega) (by omega) HBW.out (w.heap.size + 2) HSZ.out ?_; intro g cp w2 hown hgrow hat hlt; obtain ⟨⟨q0, qf⟩, HF⟩ := HG.out _ HK.out g cp w2 hown hgrow (by rw [HSZ.out]; exact hat) hlt; clear hown hgrow hat))
  all_goals
    obtain ⟨w3, hw3⟩ : ∃ w3, w2.setCell ⟨wb, 4, none⟩ (.slice (some ⟨g, 0, none⟩) (N + 1) cp) = w3 := ⟨_, rfl⟩
    rw [hw3] at HF ⊢
    have d4 : w3.cell? ⟨wb, 4, none⟩ = _ := HF.out.1.st.at rfl
    clear hw3
    go_wp2_with fail
    go_ret
    exact ⟨by simp, _, HF.out.1, HF.out.2⟩
set_option maxHeartbeats 1000000 in
theorem dlay_no (h : Dw w0 wb v L root G cs x cv w) (d : Ins) (hl : 2000 < x.c.length) :
    Calls Tryz.prog 81 #[.pointer (some ⟨wb, 0, none⟩), d.val] w fun e w' => e = .returned (.int .i64 0) ∧ Lay w0 wb v L root G cs cv w { x with lg := true } w' := by
  obtain ⟨va, vc, rfl, v1, v2⟩ := owns_form h.row
  obtain ⟨N, hN⟩ : ∃ N, x.c.length = N := ⟨_, rfl⟩
  have HH : Hid (Dw w0 wb v L root G cs { x with lg := true } (.slice va x.c.length vc) ((w.setCell ⟨wb, 6, none⟩ (.bool true)).alloc (instObj d)) ∧ Adw wb (.slice va x.c.length vc) w (.slice va x.c.length vc) ((w.setCell ⟨wb, 6, none⟩ (.bool true)).alloc (instObj d))) := by
    have h1 := h.setLg true
    exact ⟨h1.1.kpp (kp_alloc _ _), h1.2.trans (Adw.kp _ _ (kp_alloc _ _))⟩
  have c1 : w.cell? ⟨wb, 4, none⟩ = _ := h.st.at rfl
  have c6 : w.cell? ⟨wb, 6, none⟩ = _ := h.st.at rfl
  have f6 := h.st.fz 6
  have hrb : wb < w.heap.size := h.st.lt
  rw [hN] at c1 HH hl
  rw [hN]
  have d0 : decide ((N : Int) > 2000) = true := decide_eq_true (by omega)
  have d0' : decide ((2000 : Int) < (N : Int)) = true := decide_eq_true (by omega)
  have d0n : decide (2000 < N) = true := decide_eq_true (by omega)
  unfold Ins.val
  unfold instObj at HH
  clear h v1 v2 hN hl
  go_enter Tryz.func81, Tryz.ntmps81
  go_wp2_with fail
  go_ret
  exact ⟨rfl, _, HH.out.1, HH.out.2⟩
/-- lay, as it is. -/
theorem dlay_any (h : Dw w0 wb v L root G cs x cv w) (d : Ins) :
    Calls Tryz.prog 81 #[.pointer (some ⟨wb, 0, none⟩), d.val] w fun e w' => e = .returned (.int .i64 (layE d x).1) ∧ Lay w0 wb v L root G cs cv w (layE d x).2 w' := by
  unfold layE
  split
  · exact dlay_no h d (by assumption)
  · exact dlay_ok h d (by omega)
end
end Go.Proofs.YtalmajiflmejcaaGreat
/- The document's writer: to. -/
namespace Go.Proofs.YtalmajiflmejcaaGreat
open Go.ChangeShapes Go.WideShapes Go.ChangeAt Go.RowKit
set_option linter.unusedVariables false
set_option linter.unusedSimpArgs false
/-- A split that is told its ways. -/
def toL (c : List Ins) (k : Nat) (out : Nat) (lz : Bool) : List Ins :=
  match c[k]? with
  | none => c
  | some d => c.set k { d with x := if lz then (out : Int) else (k : Int) + 1, y := if lz then (k : Int) + 1 else (out : Int) }
section
variable {w0 : World} {wb : Nat} {v cv cv1 cv2 u : Value} {L : List Nq} {root G cs : Int} {x : Ds} {w w1 w2 : World}
theorem Dw.spot (h : Dw w0 wb v L root G cs x cv w) {p : Nat} {d : Ins} (hp : x.c[p]? = some d) : ∃ g cap, cv = .slice (some ⟨g, 0, none⟩) x.c.length cap ∧ x.c.length ≤ cap ∧ cap ≤ maxLen ∧ g ≠ wb ∧
    ∀ j u, d.cells[j]? = some u → w.cell? ⟨g, p * 8 + j, none⟩ = some u ∧ w.frozen? ⟨g, p * 8 + j, none⟩ = false := by
  have hlt := (List.getElem?_eq_some_iff.1 hp).1
  rcases h.row.2 with ⟨_, q⟩ | ⟨g, cap, cur, e, hb, hg, h1, h2, h3, h4⟩
  · omega
  · refine ⟨g, cap, e, h1, h2, fun q => h.apart (by rw [e, ← q]; rfl), fun j u hj => ⟨?_, by simp [World.frozen?, hg]⟩⟩
    have hj8 : j < 8 := (List.getElem?_eq_some_iff.1 hj).1
    have := flatI_get hp j hj8
    rw [hj, ← h4, List.getElem?_take] at this
    rw [cell_at hg]
    split at this
    · rw [Array.getElem?_toList] at this; exact this
    · cases this
theorem Dw.put {g n cap : Nat} (h : Dw w0 wb v L root G cs x (.slice (some ⟨g, 0, none⟩) n cap) w) {p : Nat} {d : Ins} (hp : x.c[p]? = some d) (j : Nat) (hj : j < 8) (u : Value) (e : Ins) (he : e.cells = d.cells.set j u) :
    Dw w0 wb v L root G cs { x with c := x.c.set p e } (.slice (some ⟨g, 0, none⟩) n cap) (w.setCell ⟨g, p * 8 + j, none⟩ u) ∧ Adw wb (.slice (some ⟨g, 0, none⟩) n cap) w (.slice (some ⟨g, 0, none⟩) n cap) (w.setCell ⟨g, p * 8 + j, none⟩ u) := by
  have hgw : g ≠ wb := fun q => h.apart (by rw [← q]; rfl)
  have f : Fr (Wb wb (.slice (some ⟨g, 0, none⟩) n cap)) w (w.setCell ⟨g, p * 8 + j, none⟩ u) := Fr.setCell (.inr rfl) w
  refine ⟨⟨h.kpf f, h.pt, h.ge, h.st.other hgw, ?_, h.apart⟩, f, .inl rfl⟩
  rcases h.row.2 with ⟨q, _⟩ | ⟨g', cap', cur, e', hb, hg, h1, h2, h3, h4⟩
  · cases q
  · injection e' with e1 e2 e3
    injection e1 with e1
    injection e1 with e1
    subst e1 e2 e3
    refine ⟨by simp [flatI_len], .inr ⟨g, cap, cur.setIfInBounds (p * 8 + j) u, by simp, hb, heap_setCell hg, by simpa using h1, h2, by simpa using h3, ?_⟩⟩
    simp only [List.length_set]
    rw [Array.toList_setIfInBounds, List.take_set, h4]
    exact (flatI_set hp j hj u he).symm
theorem Dw.cellAt {g n cap : Nat} (h : Dw w0 wb v L root G cs x (.slice (some ⟨g, 0, none⟩) n cap) w) {p : Nat} {d : Ins} (hp : x.c[p]? = some d) (j : Nat) (u : Value) (hj : d.cells[j]? = some u) : w.cell? ⟨g, p * 8 + j, none⟩ = some u ∧ w.frozen? ⟨g, p * 8 + j, none⟩ = false := by
  obtain ⟨g', cap', e, _, _, _, q⟩ := h.spot hp
  injection e with e _ _
  injection e with e
  injection e with e
  subst e
  exact q j u hj
theorem Dw.two {g n cap : Nat} (h : Dw w0 wb v L root G cs x (.slice (some ⟨g, 0, none⟩) n cap) w) {p : Nat} {d : Ins} (hp : x.c[p]? = some d) (a b : Int) :
    (w.cell? ⟨wb, 4, none⟩ = some (.slice (some ⟨g, 0, none⟩) n cap) ∧ w.cell? ⟨g, p * 8 + 6, none⟩ = some (.int .i64 d.x) ∧ w.frozen? ⟨g, p * 8 + 6, none⟩ = false) ∧
    (w.setCell ⟨g, p * 8 + 6, none⟩ (.int .i64 a)).cell? ⟨wb, 4, none⟩ = some (.slice (some ⟨g, 0, none⟩) n cap) ∧
    ((w.setCell ⟨g, p * 8 + 6, none⟩ (.int .i64 a)).cell? ⟨g, p * 8 + 7, none⟩ = some (.int .i64 d.y) ∧ (w.setCell ⟨g, p * 8 + 6, none⟩ (.int .i64 a)).frozen? ⟨g, p * 8 + 7, none⟩ = false) ∧
    Dw w0 wb v L root G cs { x with c := x.c.set p { d with x := a, y := b } } (.slice (some ⟨g, 0, none⟩) n cap) ((w.setCell ⟨g, p * 8 + 6, none⟩ (.int .i64 a)).setCell ⟨g, p * 8 + 7, none⟩ (.int .i64 b)) ∧
    Adw wb (.slice (some ⟨g, 0, none⟩) n cap) w (.slice (some ⟨g, 0, none⟩) n cap) ((w.setCell ⟨g, p * 8 + 6, none⟩ (.int .i64 a)).setCell ⟨g, p * 8 + 7, none⟩ (.int .i64 b)) := by
  have hlt := (List.getElem?_eq_some_iff.1 hp).1
  have r1 := h.put hp 6 (by omega) (.int .i64 a) { d with x := a } rfl
  have hp1 : (x.c.set p { d with x := a })[p]? = some { d with x := a } := by simp [hlt]
  have r2 := r1.1.put hp1 7 (by omega) (.int .i64 b) { d with x := a, y := b } rfl
  simp only [List.set_set] at r2
  exact ⟨⟨h.st.at rfl, h.cellAt hp 6 _ rfl⟩, r1.1.st.at rfl, r1.1.cellAt hp1 7 _ rfl, r2.1, r1.2.trans r2.2⟩
set_option maxHeartbeats 2000000 in
set_option maxRecDepth 100000 in
theorem dto_any (h : Dw w0 wb v L root G cs x cv w) {p : Nat} (hp : p < x.c.length) (hl : x.c.length ≤ 100000) (out : Nat) (lz : Bool) :
    Calls Tryz.prog 148 #[.pointer (some ⟨wb, 0, none⟩), .int .i64 p, .int .i64 out, .bool lz] w fun e w' => e = .returned (.tuple #[]) ∧ Dw w0 wb v L root G cs { x with c := toL x.c p out lz } cv w' ∧ Adw wb cv w cv w' := by
  obtain ⟨d, hd⟩ : ∃ d, x.c[p]? = some d := ⟨_, List.getElem?_eq_getElem hp⟩
  obtain ⟨g, cap, rfl, k1, k2, hgw, hxx⟩ := h.spot hd
  clear hxx
  obtain ⟨N, hN⟩ : ∃ N, x.c.length = N := ⟨_, rfl⟩
  rw [hN] at h hp hl k1 ⊢
  unfold maxLen at k2
  have HD : Hid (x.c[p]? = some d) := hd
  obtain ⟨⟨c4, e6, z6⟩, c4', ⟨e7, z7⟩, q1, q2⟩ := h.two hd ((p : Int) + 1) (out : Int)
  obtain ⟨W1, hW1⟩ : ∃ W1, w.setCell ⟨g, p * 8 + 6, none⟩ (.int .i64 ((p : Int) + 1)) = W1 := ⟨_, rfl⟩
  rw [hW1] at c4' e7 z7 q1 q2
  obtain ⟨W2, hW2⟩ : ∃ W2, W1.setCell ⟨g, p * 8 + 7, none⟩ (.int .i64 out) = W2 := ⟨_, rfl⟩
  rw [hW2] at q1 q2
  have H2 : Hid (Dw w0 wb v L root G cs { x with c := x.c.set p { d with x := (p : Int) + 1, y := out } } (.slice (some ⟨g, 0, none⟩) N cap) W2 ∧ Adw wb (.slice (some ⟨g, 0, none⟩) N cap) w (.slice (some ⟨g, 0, none⟩) N cap) W2) := ⟨q1, q2⟩
  have hpN : (0 : Int) ≤ (p : Int) ∧ (p : Int) < (N : Int) := by omega
  have hlN : (N : Int) ≤ 100000 := by omega
  have HN : Hid (x.c.length = N) := hN
  clear h q1 q2 hd hN
  go_enter Tryz.func148, Tryz.ntmps148
  go_upto_region 1 with fail
  try rw [hW1]
  clear c4 e6 z6 hW1
  go_upto_region 2 with fail
  try rw [hW2]
  clear c4' e7 z7 hW2
  cases lz with
  | false =>
    have HT : Hid (toL x.c p out false = x.c.set p { d with x := (p : Int) + 1, y := out }) := by unfold toL; rw [HD.out]; rfl
    go_wp2_with fail
    go_end0
    rw [HT.out]
    exact ⟨rfl, H2.out⟩
  | true =>
    have HT : Hid (toL x.c p out true = x.c.set p { d with x := out, y := (p : Int) + 1 }) := by unfold toL; rw [HD.out]; rfl
    have hp2 : ({ x with c := x.c.set p { d with x := (p : Int) + 1, y := out } } : Ds).c[p]? = some { d with x := (p : Int) + 1, y := out } := by simp [HN.out, hp]
    obtain ⟨⟨c4, e6, z6⟩, c4', ⟨e7, z7⟩, q1, q2⟩ := H2.out.1.two hp2 (out : Int) ((p : Int) + 1)
    obtain ⟨W3, hW3⟩ : ∃ W3, W2.setCell ⟨g, p * 8 + 6, none⟩ (.int .i64 out) = W3 := ⟨_, rfl⟩
    rw [hW3] at c4' e7 z7 q1 q2
    obtain ⟨W4, hW4⟩ : ∃ W4, W3.setCell ⟨g, p * 8 + 7, none⟩ (.int .i64 ((p : Int) + 1)) = W4 := ⟨_, rfl⟩
    rw [hW4] at q1 q2
    simp only [List.set_set] at q1
    have H4 : Hid (Dw w0 wb v L root G cs { x with c := x.c.set p { d with x := out, y := (p : Int) + 1 } } (.slice (some ⟨g, 0, none⟩) N cap) W4 ∧ Adw wb (.slice (some ⟨g, 0, none⟩) N cap) w (.slice (some ⟨g, 0, none⟩) N cap) W4) := ⟨q1, H2.out.2.trans q2⟩
    clear q1 q2 hp2
    go_upto_region 4 with fail
    try rw [hW3]
    clear c4 e6 z6 hW3
    go_wp2_with fail
    try rw [hW4]
    go_end0
    rw [HT.out]
    exact ⟨rfl, H4.out⟩
end
end Go.Proofs.YtalmajiflmejcaaGreat
/- The document's writer: what it lays, as it is; round. -/
namespace Go.Proofs.YtalmajiflmejcaaGreat
open Go.ChangeShapes Go.WideShapes Go.ChangeAt Go.RowKit
set_option linter.unusedVariables false
set_option linter.unusedSimpArgs false
/-- What is kept of a writer. -/
structure Okd (x : Ds) : Prop where
  len : x.c.length ≤ 2001
  rnd : x.lg = false → x.r ≤ x.c.length
  lon : x.lg = true → x.c.length = 2001 ∧ x.r ≤ 2002
/-- What a writer's call keeps. -/
structure Kpd (x y : Ds) : Prop where
  ok : Okd y
  len : x.c.length ≤ y.c.length
  lon : x.lg = true → y.lg = true
theorem Kpd.trans {x y z : Ds} (h : Kpd x y) (h' : Kpd y z) : Kpd x z := ⟨h'.ok, Nat.le_trans h.len h'.len, fun q => h'.lon (h.lon q)⟩
theorem Kpd.refl {x : Ds} (h : Okd x) : Kpd x x := ⟨h, Nat.le_refl _, fun q => q⟩
theorem Okd.rr {x : Ds} (h : Okd x) : x.r ≤ 2002 := by
  cases q : x.lg with
  | false => have := h.rnd q; have := h.len; omega
  | true => exact (h.lon q).2
theorem layE_kpd {x : Ds} (h : Okd x) (d : Ins) : Kpd x (layE d x).2 ∧ (layE d x).1 < (layE d x).2.c.length := by
  unfold layE
  have h1 := h.len
  have h2 := h.rnd
  have h3 := h.lon
  split
  · rename_i q
    refine ⟨⟨⟨h1, fun z => by simp at z, fun _ => ⟨by simp only; omega, ?_⟩⟩, Nat.le_refl _, fun _ => rfl⟩, by simp only; omega⟩
    exact h.rr
  · rename_i q
    refine ⟨⟨⟨by simp only [List.length_append, List.length_singleton]; omega, fun z => ?_, fun z => ?_⟩, by simp, fun z => z⟩, by simp⟩
    · have := h2 z; simp only [List.length_append, List.length_singleton]; omega
    · have := (h3 z).1; omega
def roundE (N : Int → Ds → Ds) (k : Int) (x : Ds) : Nat × Ds :=
  ((layE { op := 4 } x).1, (layE { op := 13, x := (layE { op := 4 } x).2.r } (N k (layE { op := 12, x := (layE { op := 4 } x).2.r } { (layE { op := 4 } x).2 with r := (layE { op := 4 } x).2.r + 1 }).2)).2)
/-- What is known of a model of node at a kid. -/
def KpN (N : Int → Ds → Ds) (k : Int) : Prop := ∀ x, Okd x → Kpd x (N k x)
theorem bump_okd {x : Ds} (h : Okd x) (hl : x.lg = false) (d : Ins) : Okd { (layE d x).2 with r := (layE d x).2.r + 1 } := by
  obtain ⟨⟨h1, _, h3⟩, h4⟩ := layE_kpd h d
  have h5 := h.rnd hl
  have h6 := h.len
  refine ⟨h1.len, fun q => ?_, fun q => ⟨(h1.lon q).1, ?_⟩⟩
  · simp only at q ⊢
    unfold layE at q ⊢
    split at q
    · simp at q
    · rename_i z
      rw [if_neg z]
      simp only [List.length_append, List.length_singleton]
      omega
  · simp only
    unfold layE
    split
    · simp only; omega
    · simp only; omega
theorem round_kpd {N : Int → Ds → Ds} {k : Int} (hN : KpN N k) {x : Ds} (h : Okd x) (hl : x.lg = false) : Kpd x (roundE N k x).2 ∧ (roundE N k x).1 < (roundE N k x).2.c.length := by
  obtain ⟨h1, h2⟩ := layE_kpd h { op := 4 }
  have h3 := bump_okd h hl { op := 4 }
  have h4 := (layE_kpd h3 { op := 12, x := (layE { op := 4 } x).2.r }).1
  have h5 := hN _ h4.ok
  have h6 := (layE_kpd h5.ok { op := 13, x := (layE { op := 4 } x).2.r }).1
  have h7 : (layE { op := 4 } x).2.c.length ≤ (roundE N k x).2.c.length := by
    have := h4.len; have := h5.len; have := h6.len
    unfold roundE
    simp only at *
    omega
  refine ⟨⟨h6.ok, Nat.le_trans h1.len h7, fun q => by rw [hl] at q; cases q⟩, ?_⟩
  have : (roundE N k x).1 = (layE { op := 4 } x).1 := rfl
  omega
section
variable {w0 : World} {wb : Nat} {v cv cv1 cv2 u : Value} {L : List Nq} {root G cs : Int} {x : Ds} {w w1 w2 : World}
/-- The call of node at a kid. -/
def NodeC (w0 : World) (wb : Nat) (v : Value) (L : List Nq) (root G cs : Int) (N : Int → Ds → Ds) (k : Int) : Prop :=
  ∀ x cv w, Dw w0 wb v L root G cs x cv w → Okd x → Calls Tryz.prog 80 #[.pointer (some ⟨wb, 0, none⟩), .int .i64 k] w fun e w' => e = .returned (.tuple #[]) ∧ Lay w0 wb v L root G cs cv w (N k x) w'
set_option maxHeartbeats 2000000 in
set_option maxRecDepth 100000 in
theorem dround_any (h : Dw w0 wb v L root G cs x cv w) (hx : Okd x) (hlg : x.lg = false) {N : Int → Ds → Ds} {k : Int} (hN : KpN N k) (HNC : NodeC w0 wb v L root G cs N k) :
    Calls Tryz.prog 149 #[.pointer (some ⟨wb, 0, none⟩), .int .i64 k] w fun e w' => e = .returned (.int .i64 (roundE N k x).1) ∧ Lay w0 wb v L root G cs cv w (roundE N k x).2 w' := by
  obtain ⟨R, hR⟩ : ∃ R, roundE N k x = R := ⟨_, rfl⟩
  rw [hR]
  have HR : Hid (R = roundE N k x) := hR.symm
  obtain ⟨⟨a1, x1⟩, h1⟩ : ∃ X, layE { op := 4 } x = X := ⟨_, rfl⟩
  have HL1 : Hid (layE { op := 4 } x = (a1, x1)) := h1
  have HC1 : Hid (Calls Tryz.prog 81 #[.pointer (some ⟨wb, 0, none⟩), .agg #[.int .u8 4, .int .u8 0, .int .u64 0, .int .u64 0, .int .u64 0, .int .u64 0, .int .i64 0, .int .i64 0]] w fun e w' => e = .returned (.int .i64 a1) ∧ Lay w0 wb v L root G cs cv w x1 w') := by
    have := dlay_any h { op := 4 }
    rw [h1] at this
    exact this
  have HO : Hid (Okd { x1 with r := x1.r + 1 } ∧ x1.r ≤ 2002) := by
    have h2 := bump_okd hx hlg { op := 4 }
    have h3 := (layE_kpd hx { op := 4 }).1.ok.rr
    rw [h1] at h2 h3
    exact ⟨h2, h3⟩
  have HN : Hid (KpN N k ∧ NodeC w0 wb v L root G cs N k) := ⟨hN, HNC⟩
  clear h hx hlg hN HNC hR h1
  go_enter Tryz.func149, Tryz.ntmps149
  go_wp2_with fail
  refine Calls.mono HC1.out ?_
  rintro e w1 ⟨rfl, cv1, q1, q2⟩
  have H1 : Hid (Dw w0 wb v L root G cs x1 cv1 w1 ∧ Adw wb cv w cv1 w1) := ⟨q1, q2⟩
  clear q1 q2 HC1
  obtain ⟨r, hr⟩ : ∃ r, x1.r = r := ⟨_, rfl⟩
  have HRR : Hid (x1.r = r) := hr
  have hrb : (r : Int) ≤ 2002 := by have := HO.out.2; omega
  have c5 : w1.cell? ⟨wb, 5, none⟩ = some (.int .i64 r) := by rw [← hr]; exact H1.out.1.st.at rfl
  have f5 := H1.out.1.st.fz 5
  obtain ⟨W2, hW2⟩ : ∃ W2, w1.setCell ⟨wb, 5, none⟩ (.int .i64 ((r : Int) + 1)) = W2 := ⟨_, rfl⟩
  have H2 : Hid (Dw w0 wb v L root G cs { x1 with r := r + 1 } cv1 W2 ∧ Adw wb cv w cv1 W2) := by
    obtain ⟨q1, q2⟩ := H1.out.1.setR (r + 1)
    have e : ((r + 1 : Nat) : Int) = (r : Int) + 1 := by omega
    rw [e, hW2] at q1 q2
    exact ⟨q1, H1.out.2.trans q2⟩
  obtain ⟨x2, h2⟩ : ∃ X, (layE { op := 12, x := r } { x1 with r := r + 1 }).2 = X := ⟨_, rfl⟩
  have HL2 : Hid ((layE { op := 12, x := r } { x1 with r := r + 1 }).2 = x2 ∧ Okd x2) := by
    refine ⟨h2, ?_⟩
    rw [← h2, ← hr]
    exact (layE_kpd HO.out.1 _).1.ok
  have HC2 : Hid (Calls Tryz.prog 81 #[.pointer (some ⟨wb, 0, none⟩), .agg #[.int .u8 12, .int .u8 0, .int .u64 0, .int .u64 0, .int .u64 0, .int .u64 0, .int .i64 r, .int .i64 0]] W2 fun e w' => (∃ a, e = .returned (.int .i64 a)) ∧ Lay w0 wb v L root G cs cv w x2 w') := by
    have := dlay_any H2.out.1 { op := 12, x := r }
    rw [h2] at this
    exact Calls.mono this fun e w' q => ⟨⟨_, q.1⟩, q.2.ahead H2.out.2⟩
  clear h2 hr
  go_upto_region 4 with fail
  try rw [hW2]
  clear c5 f5 hW2
  go_wp2_with fail
  refine Calls.mono HC2.out ?_
  rintro e w3 ⟨⟨a3, rfl⟩, cv3, q1, q2⟩
  have H3 : Hid (Dw w0 wb v L root G cs x2 cv3 w3 ∧ Adw wb cv w cv3 w3) := ⟨q1, q2⟩
  clear q1 q2 HC2
  obtain ⟨x3, h3⟩ : ∃ X, N k x2 = X := ⟨_, rfl⟩
  have HC3 : Hid (Calls Tryz.prog 80 #[.pointer (some ⟨wb, 0, none⟩), .int .i64 k] w3 fun e w' => e = .returned (.tuple #[]) ∧ Lay w0 wb v L root G cs cv w x3 w') := by
    have := HN.out.2 x2 cv3 w3 H3.out.1 HL2.out.2
    rw [h3] at this
    exact Calls.mono this fun e w' q => ⟨q.1, q.2.ahead H3.out.2⟩
  have HL3 : Hid (N k x2 = x3) := h3
  clear h3
  go_wp2_with fail
  refine Calls.mono HC3.out ?_
  rintro e w4 ⟨rfl, cv4, q1, q2⟩
  have H4 : Hid (Dw w0 wb v L root G cs x3 cv4 w4 ∧ Adw wb cv w cv4 w4) := ⟨q1, q2⟩
  clear q1 q2 HC3
  have HC4 : Hid (Calls Tryz.prog 81 #[.pointer (some ⟨wb, 0, none⟩), .agg #[.int .u8 13, .int .u8 0, .int .u64 0, .int .u64 0, .int .u64 0, .int .u64 0, .int .i64 r, .int .i64 0]] w4 fun e w' => (∃ a, e = .returned (.int .i64 a)) ∧ Lay w0 wb v L root G cs cv w (layE { op := 13, x := r } x3).2 w') := by
    have := dlay_any H4.out.1 { op := 13, x := r }
    exact Calls.mono this fun e w' q => ⟨⟨_, q.1⟩, q.2.ahead H4.out.2⟩
  go_wp2_with fail
  refine Calls.mono HC4.out ?_
  rintro e w5 ⟨⟨a5, rfl⟩, q⟩
  have H5 : Hid (Lay w0 wb v L root G cs cv w (layE { op := 13, x := r } x3).2 w5) := q
  have HRX : Hid (R = (a1, (layE { op := 13, x := r } x3).2)) := by
    show _ = _
    rw [HR.out]
    unfold roundE
    rw [HL1.out]
    simp only
    rw [HRR.out, HL2.out.1, HL3.out]
  clear q HC4
  go_wp2_with fail
  go_ret
  rw [HRX.out]
  exact ⟨rfl, H5.out⟩
end
end Go.Proofs.YtalmajiflmejcaaGreat
/- The document's writer: a kid so many times; without a bound. -/
namespace Go.Proofs.YtalmajiflmejcaaGreat
open Go.ChangeShapes Go.WideShapes Go.ChangeAt Go.RowKit
set_option linter.unusedVariables false
set_option linter.unusedSimpArgs false
def repE (N : Int → Ds → Ds) (k : Int) : Nat → Ds → Ds
  | 0, x => x
  | n + 1, x => if x.lg then x else repE N k n (N k x)
def tosE (lz : Bool) : List Nat → Ds → Ds
  | [], x => x
  | a :: l, x => tosE lz l { x with c := toL x.c a x.c.length lz }
def triesE (N : Int → Ds → Ds) (k : Int) : Nat → List Nat → Ds → List Nat × Ds
  | 0, l, x => (l, x)
  | n + 1, l, x => if x.lg then (l, x) else triesE N k n (l ++ [(roundE N k x).1]) (roundE N k x).2
def infE (N : Int → Ds → Ds) (k : Int) (lz : Bool) (x : Ds) : Ds := tosE lz [(roundE N k x).1] (layE { op := 5, x := (roundE N k x).1 } (roundE N k x).2).2
/-- A kid so many times. -/
def manyE (N : Int → Ds → Ds) (k : Int) (mn : Nat) (mx : Int) (lz : Bool) (x : Ds) : Ds :=
  if (repE N k mn x).lg then repE N k mn x
  else if mx < 0 then infE N k lz (repE N k mn x)
  else tosE lz (triesE N k (mx.toNat - mn) [] (repE N k mn x)).1 (triesE N k (mx.toNat - mn) [] (repE N k mn x)).2
theorem toL_len (c : List Ins) (k out : Nat) (lz : Bool) : (toL c k out lz).length = c.length := by
  unfold toL
  split
  · rfl
  · simp
theorem rep_kpd {N : Int → Ds → Ds} {k : Int} (hN : KpN N k) : ∀ (n : Nat) {x : Ds}, Okd x → Kpd x (repE N k n x) := by
  intro n
  induction n with
  | zero => intro x h; exact Kpd.refl h
  | succ n ih =>
    intro x h
    unfold repE
    split
    · exact Kpd.refl h
    · exact (hN x h).trans (ih (hN x h).ok)
theorem okd_to {x : Ds} (h : Okd x) (a out : Nat) (lz : Bool) : Okd { x with c := toL x.c a out lz } := ⟨by simp only [toL_len]; exact h.len, by simp only [toL_len]; exact h.rnd, by simp only [toL_len]; exact h.lon⟩
theorem tos_kpd (lz : Bool) : ∀ (l : List Nat) {x : Ds}, Okd x → Kpd x (tosE lz l x) := by
  intro l
  induction l with
  | nil => intro x h; exact Kpd.refl h
  | cons a l ih =>
    intro x h
    unfold tosE
    have h1 := okd_to h a x.c.length lz
    exact Kpd.trans ⟨h1, by simp only [toL_len]; exact Nat.le_refl _, fun q => q⟩ (ih h1)
theorem tries_kpd {N : Int → Ds → Ds} {k : Int} (hN : KpN N k) : ∀ (n : Nat) (l : List Nat) {x : Ds}, Okd x → Kpd x (triesE N k n l x).2 := by
  intro n
  induction n with
  | zero => intro l x h; exact Kpd.refl h
  | succ n ih =>
    intro l x h
    unfold triesE
    cases hl : x.lg with
    | true => exact Kpd.refl h
    | false => exact (round_kpd hN h hl).1.trans (ih _ (round_kpd hN h hl).1.ok)
theorem inf_kpd {N : Int → Ds → Ds} {k : Int} (hN : KpN N k) (lz : Bool) {x : Ds} (h : Okd x) (hl : x.lg = false) : Kpd x (infE N k lz x) := by
  have h1 := (round_kpd hN h hl).1
  have h2 := (layE_kpd h1.ok { op := 5, x := (roundE N k x).1 }).1
  exact (h1.trans h2).trans (tos_kpd lz _ h2.ok)
theorem many_kpd {N : Int → Ds → Ds} {k : Int} (hN : KpN N k) (mn : Nat) (mx : Int) (lz : Bool) {x : Ds} (h : Okd x) : Kpd x (manyE N k mn mx lz x) := by
  unfold manyE
  have h1 := rep_kpd hN mn h
  cases hl : (repE N k mn x).lg with
  | true => exact h1
  | false =>
    simp only [Bool.false_eq_true, if_false]
    split
    · exact h1.trans (inf_kpd hN lz h1.ok hl)
    · have h2 := tries_kpd hN (mx.toNat - mn) [] h1.ok
      exact (h1.trans h2).trans (tos_kpd lz _ h2.ok)
/-- A call under way, with a box of a node. -/
structure Ub (w0 : World) (wb : Nat) (v : Value) (L : List Nq) (root G cs : Int) (cvS : Value) (wS : World) (m : Nat) (l : List Value) (x : Ds) (cv : Value) (w : World) : Prop where
  dw : Dw w0 wb v L root G cs x cv w
  ok : Okd x
  ad : Adw wb cvS wS cv w
  bx : Lc 195 m l w
  ne : m ≠ wb
  off : cv.ownBlock ≠ some m
section
variable {w0 : World} {wb m : Nat} {v cv cv1 cv2 u cvS : Value} {L : List Nq} {root G cs : Int} {x y : Ds} {w w1 w2 wS : World} {l : List Value}
theorem Ub.step (h : Ub w0 wb v L root G cs cvS wS m l x cv w) (q : Lay w0 wb v L root G cs cv w y w1) (hy : Okd y) : ∃ cv', Ub w0 wb v L root G cs cvS wS m l y cv' w1 := by
  obtain ⟨cv', q1, q2⟩ := q
  refine ⟨cv', q1, hy, h.ad.trans q2, h.bx.fr q2.fr (fun z => z.elim h.ne h.off), h.ne, ?_⟩
  rcases q2.own with e | e
  · rw [e]; exact h.off
  · intro z
    have := e m z
    have := h.bx.lt
    omega
theorem Ub.new (h : Dw w0 wb v L root G cs x cv w) (hx : Okd x) (d : Nq) (kv : Value) : Ub w0 wb v L root G cs cv w w.heap.size (d.cells kv) x cv (w.alloc (.cells #[.int .u8 d.op, .int .u8 d.c, .int .u64 d.set.a, .int .u64 d.set.b, .int .u64 d.set.c, .int .u64 d.set.d, .int .i64 d.mn, .int .i64 d.mx, .bool d.lz, .int .i64 d.n, kv] 195)) := by
  refine ⟨h.kpp (kp_alloc _ _), hx, Adw.kp _ _ (kp_alloc _ _), nq_new w d kv, ?_, ?_⟩
  · have := h.st.lt; omega
  · intro z
    have := (h.row.lt _ z).2
    omega
theorem Ub.kp (h : Ub w0 wb v L root G cs cvS wS m l x cv w) (k : Kp w w1) : Ub w0 wb v L root G cs cvS wS m l x cv w1 := ⟨h.dw.kpp k, h.ok, h.ad.trans (Adw.kp _ _ k), h.bx.kp k, h.ne, h.off⟩
set_option maxHeartbeats 8000000 in
set_option maxRecDepth 100000 in
theorem dmany_inf (h : Dw w0 wb v L root G cs x cv w) (hx : Okd x) {N : Int → Ds → Ds} {k : Int} (hN : KpN N k) (HNC : NodeC w0 wb v L root G cs N k) {d : Nq} {kv : Value} (hks : Ks w0 kv d.kids) (hk0 : d.kids[0]? = some k) {mn : Nat} (hmn : d.mn = (mn : Int)) (h60 : mn ≤ 60) (hmx : d.mx < 0) :
    Calls Tryz.prog 117 #[.pointer (some ⟨wb, 0, none⟩), d.val kv] w fun e w' => e = .returned (.tuple #[]) ∧ Lay w0 wb v L root G cs cv w (manyE N k mn d.mx d.lz x) w' := by
  obtain ⟨R, hR⟩ : ∃ R, manyE N k mn d.mx d.lz x = R := ⟨_, rfl⟩
  rw [hR]
  obtain ⟨X1, hX1⟩ : ∃ X1, repE N k mn x = X1 := ⟨_, rfl⟩
  have HX1 : Hid (repE N k mn x = X1) := hX1
  have HR : Hid (R = if X1.lg then X1 else infE N k d.lz X1) := by
    show _ = _
    rw [← hR, ← hX1]; unfold manyE; rw [if_pos hmx]
  clear hR hX1
  obtain ⟨ka, kc, rfl, k1, k2, hxx⟩ := id hks
  clear hxx
  obtain ⟨kb, ko, rfl, ck0⟩ := hks.cell hk0
  have U0 := Ub.new h hx d (.slice (some ⟨kb, ko, none⟩) d.kids.length kc)
  obtain ⟨op, c, st, mnI, mx, lz, nn, ks⟩ := d
  simp only at hmn hmx k1 ck0 U0 HR hks hk0
  obtain ⟨M, hM⟩ : ∃ M, ks.length = M := ⟨_, rfl⟩
  have hM0 : 0 < M := by rw [← hM]; exact (List.getElem?_eq_some_iff.1 hk0).1
  unfold Nq.val
  simp only
  rw [hM] at U0 k1 ⊢
  subst hmn
  obtain ⟨m, hm⟩ : ∃ m, w.heap.size = m := ⟨_, rfl⟩
  obtain ⟨W1, hW1⟩ : ∃ W1, w.alloc (.cells #[.int .u8 op, .int .u8 c, .int .u64 st.a, .int .u64 st.b, .int .u64 st.c, .int .u64 st.d, .int .i64 mn, .int .i64 mx, .bool lz, .int .i64 nn, .slice (some ⟨kb, ko, none⟩) M kc] 195) = W1 := ⟨_, rfl⟩
  rw [hm, hW1] at U0
  have HU0 : Hid (Ub w0 wb v L root G cs cv w m (Nq.cells ⟨op, c, st, mn, mx, lz, nn, ks⟩ (.slice (some ⟨kb, ko, none⟩) M kc)) x cv W1) := U0
  have HN : Hid (KpN N k ∧ NodeC w0 wb v L root G cs N k) := ⟨hN, HNC⟩
  have HCK : Hid (w0.cell? ⟨kb, ko, none⟩ = some (.int .i64 k)) := by rw [Nat.add_zero] at ck0; exact ck0
  unfold maxLen at k2
  clear h hx hN HNC hks hk0 U0 hM ck0
  go_enter Tryz.func117, Tryz.ntmps117
  go_upto_region 2 with fail
  try rw [hW1]
  try rw [hm]
  clear hW1 hm
  go_loopw [4] (fun v4 wr => ∃ i : Nat, i ≤ mn ∧ v4 = .int .i64 i ∧ Hid (∃ xr cvr, Ub w0 wb v L root G cs cv w m (Nq.cells ⟨op, c, st, mn, mx, lz, nn, ks⟩ (.slice (some ⟨kb, ko, none⟩) M kc)) xr cvr wr ∧ repE N k (mn - i) xr = X1)) (fun v4 _ => mn - (intOf v4).toNat)
  case atStart => exact ⟨0, Nat.zero_le _, rfl, x, cv, HU0.out, HX1.out⟩
  case round =>
    obtain ⟨i, hi, rfl, xr, cvr, hq⟩ := hrel
    have HQ : Hid (Ub w0 wb v L root G cs cv w m (Nq.cells ⟨op, c, st, mn, mx, lz, nn, ks⟩ (.slice (some ⟨kb, ko, none⟩) M kc)) xr cvr wr ∧ repE N k (mn - i) xr = X1) := hq
    clear hq
    have b6 : wr.cell? ⟨m, 6, none⟩ = some (.int .i64 mn) := HQ.out.1.bx.at rfl
    have b7 : wr.cell? ⟨m, 7, none⟩ = some (.int .i64 mx) := HQ.out.1.bx.at rfl
    have b10 : wr.cell? ⟨m, 10, none⟩ = some (.slice (some ⟨kb, ko, none⟩) M kc) := HQ.out.1.bx.at rfl
    have ck : wr.cell? ⟨kb, ko, none⟩ = some (.int .i64 k) := kp_cell HQ.out.1.dw.kp HCK.out
    obtain ⟨g, hg⟩ : ∃ g, xr.lg = g := ⟨_, rfl⟩
    have c6 : wr.cell? ⟨wb, 6, none⟩ = some (.bool g) := by rw [← hg]; exact HQ.out.1.dw.st.at rfl
    have HG : Hid (xr.lg = g) := hg
    clear hg
    have gx : decide (mx < 0) = true := decide_eq_true hmx
    have hM1 : (0 : Int) < (M : Int) := by omega
    cases g with
    | true =>
      have HRX : Hid (R = xr) := by
        have e : X1 = xr := by
          rw [← HQ.out.2]
          cases mn - i with
          | zero => rfl
          | succ n => unfold repE; rw [HG.out]; rfl
        show _ = _
        rw [HR.out, e, HG.out]; rfl
      by_cases hlt : i < mn
      · have dl : decide ((i : Int) < (mn : Int)) = true := decide_eq_true (by omega)
        have dn : decide (i < mn) = true := decide_eq_true hlt
        go_wp2_with fail
        (try simp only [Exit.inBlock, Exit.then])
        refine bodyPost_ret (results_none rfl _ _ _) rfl ?_
        rw [HRX.out]
        exact ⟨rfl, _, HQ.out.1.dw, HQ.out.1.ad⟩
      · have dl : decide ((i : Int) < (mn : Int)) = false := decide_eq_false (by omega)
        have dn : decide (i < mn) = false := decide_eq_false hlt
        go_wp2_with fail
        (try simp only [Exit.inBlock, Exit.then])
        refine bodyPost_ret (results_none rfl _ _ _) rfl ?_
        rw [HRX.out]
        exact ⟨rfl, _, HQ.out.1.dw, HQ.out.1.ad⟩
    | false =>
    by_cases hlt : i < mn
    · have dl : decide ((i : Int) < (mn : Int)) = true := decide_eq_true (by omega)
      have dn : decide (i < mn) = true := decide_eq_true hlt
      have HC : Hid (Calls Tryz.prog 80 #[.pointer (some ⟨wb, 0, none⟩), .int .i64 k] wr fun e w' => e = .returned (.tuple #[]) ∧ Lay w0 wb v L root G cs cvr wr (N k xr) w') := HN.out.2 _ _ _ HQ.out.1.dw HQ.out.1.ok
      have HE : Hid (repE N k (mn - (i + 1)) (N k xr) = X1) := by
        have e := HQ.out.2
        rw [show mn - i = (mn - (i + 1)) + 1 by omega, repE, HG.out] at e
        exact e
      go_wp2_with fail
      refine Calls.mono HC.out ?_
      rintro e w5 ⟨rfl, q1⟩
      have H5 : Hid (∃ cv', Ub w0 wb v L root G cs cv w m (Nq.cells ⟨op, c, st, mn, mx, lz, nn, ks⟩ (.slice (some ⟨kb, ko, none⟩) M kc)) (N k xr) cv' w5) := HQ.out.1.step q1 (HN.out.1 _ HQ.out.1.ok).ok
      clear q1 b6 b7 b10 ck c6
      go_wp2_with fail
      go_roundw
      case rel =>
        obtain ⟨cv', q⟩ := H5.out
        exact ⟨i + 1, by omega, by go_num, _, cv', q, HE.out⟩
      case measure => simp only [intOf]; omega
    · have dl : decide ((i : Int) < (mn : Int)) = false := decide_eq_false (by omega)
      have dn : decide (i < mn) = false := decide_eq_false hlt
      have HXE : Hid (X1 = xr) := by
        have e := HQ.out.2
        rw [show mn - i = 0 by omega, repE] at e
        exact e.symm
      obtain ⟨⟨a3, x3⟩, h3⟩ : ∃ X, roundE N k xr = X := ⟨_, rfl⟩
      have HC : Hid (Calls Tryz.prog 149 #[.pointer (some ⟨wb, 0, none⟩), .int .i64 k] wr fun e w' => e = .returned (.int .i64 a3) ∧ Lay w0 wb v L root G cs cvr wr x3 w') := by
        have := dround_any HQ.out.1.dw HQ.out.1.ok HG.out HN.out.1 HN.out.2
        rw [h3] at this
        exact this
      have HK3 : Hid (roundE N k xr = (a3, x3) ∧ Okd x3 ∧ a3 < x3.c.length) := by
        have := round_kpd HN.out.1 HQ.out.1.ok HG.out
        rw [h3] at this
        exact ⟨h3, this.1.ok, this.2⟩
      clear h3
      go_wp2_with fail
      refine Calls.mono HC.out ?_
      rintro e w5 ⟨rfl, q1⟩
      obtain ⟨cv5, q2⟩ := HQ.out.1.step q1 HK3.out.2.1
      have H5 : Hid (Ub w0 wb v L root G cs cv w m (Nq.cells ⟨op, c, st, mn, mx, lz, nn, ks⟩ (.slice (some ⟨kb, ko, none⟩) M kc)) x3 cv5 w5) := q2
      clear q1 q2 b6 b7 b10 ck c6 HC
      obtain ⟨x4, h4⟩ : ∃ X, (layE { op := 5, x := a3 } x3).2 = X := ⟨_, rfl⟩
      have HK4 : Hid ((layE { op := 5, x := a3 } x3).2 = x4 ∧ Okd x4 ∧ a3 < x4.c.length) := by
        have := (layE_kpd HK3.out.2.1 { op := 5, x := a3 }).1
        rw [h4] at this
        exact ⟨h4, this.ok, Nat.lt_of_lt_of_le HK3.out.2.2 this.len⟩
      have HC4 : Hid (Calls Tryz.prog 81 #[.pointer (some ⟨wb, 0, none⟩), .agg #[.int .u8 5, .int .u8 0, .int .u64 0, .int .u64 0, .int .u64 0, .int .u64 0, .int .i64 a3, .int .i64 0]] w5 fun e w' => (∃ a, e = .returned (.int .i64 a)) ∧ Lay w0 wb v L root G cs cv5 w5 x4 w') := by
        have := dlay_any H5.out.dw { op := 5, x := a3 }
        rw [h4] at this
        exact Calls.mono this fun e w' q => ⟨⟨_, q.1⟩, q.2⟩
      clear h4
      go_wp2_with fail
      refine Calls.mono HC4.out ?_
      rintro e w8 ⟨⟨a8, rfl⟩, q1⟩
      obtain ⟨cv8, q2⟩ := H5.out.step q1 HK4.out.2.1
      clear q1 HC4
      obtain ⟨ca, cc, rfl, v1, v2⟩ := owns_form q2.dw.row
      obtain ⟨C, hC⟩ : ∃ C, x4.c.length = C := ⟨_, rfl⟩
      rw [hC] at q2 v1
      have H8 : Hid (Ub w0 wb v L root G cs cv w m (Nq.cells ⟨op, c, st, mn, mx, lz, nn, ks⟩ (.slice (some ⟨kb, ko, none⟩) M kc)) x4 (.slice ca C cc) w8.drew) := q2.kp (kp_drew _)
      have HC9 : Hid (Calls Tryz.prog 148 #[.pointer (some ⟨wb, 0, none⟩), .int .i64 a3, .int .i64 C, .bool lz] w8.drew fun e w' => e = .returned (.tuple #[]) ∧ Dw w0 wb v L root G cs { x4 with c := toL x4.c a3 C lz } (.slice ca C cc) w' ∧ Adw wb (.slice ca C cc) w8.drew (.slice ca C cc) w') := dto_any H8.out.dw HK4.out.2.2 (by have := HK4.out.2.1.len; omega) C lz
      have HS9 : Hid (Lc 195 m (Nq.cells ⟨op, c, st, mn, mx, lz, nn, ks⟩ (.slice (some ⟨kb, ko, none⟩) M kc)) w8.drew ∧ w8.drew.cell? ⟨wb, 4, none⟩ = some (.slice ca C cc)) := ⟨H8.out.bx, H8.out.dw.st.at rfl⟩
      have HRX : Hid (R = { x4 with c := toL x4.c a3 C lz }) := by
        show _ = _
        rw [HR.out, HXE.out, HG.out]
        simp only [Bool.false_eq_true, if_false]
        unfold infE
        rw [HK3.out.1]
        simp only [tosE]
        rw [HK4.out.1, hC]
      clear q2 hC
      go_upto_region 9 with fail
      refine wp_region_noPanic ?_
      refine wp_region_held_drew (S := fun z => Lc 195 m (Nq.cells ⟨op, c, st, mn, mx, lz, nn, ks⟩ (.slice (some ⟨kb, ko, none⟩) M kc)) z ∧ z.cell? ⟨wb, 4, none⟩ = some (.slice ca C cc)) (by kernel_rfl) (HS9.out) (fun hHeld => ?_)
      refine takeAt 0 (some 45) ?_ rfl rfl (by kernel_rfl) (by kernel_rfl) (by kernel_rfl) (fun _ _ _ h => h) (Or.inl ⟨by rfl, ?_⟩) hHeld ?_
      rotate_left
      · intro w hSw
        go_simp <;> with_reducible rfl
      try simp only [Act.put, List.setIfInBounds_toArray, List.set_cons_zero, List.set_cons_succ]
      refine takeAt 1 (some 46) ?_ rfl rfl (by kernel_rfl) (by kernel_rfl) (by kernel_rfl) (fun _ _ _ h => h) (Or.inl ⟨by rfl, ?_⟩) hHeld ?_
      rotate_left
      · intro w hSw
        go_simp <;> with_reducible rfl
      try simp only [Act.put, List.setIfInBounds_toArray, List.set_cons_zero, List.set_cons_succ]
      refine takeAt 2 (some 47) ?_ rfl rfl (by kernel_rfl) (by kernel_rfl) (by kernel_rfl) (fun _ _ _ h => h) (Or.inl ⟨by rfl, ?_⟩) hHeld ?_
      rotate_left
      · intro w hSw
        go_simp <;> with_reducible rfl
      try simp only [Act.put, List.setIfInBounds_toArray, List.set_cons_zero, List.set_cons_succ]
      refine takeAt 3 (some 48) ?_ rfl rfl (by kernel_rfl) (by kernel_rfl) (by kernel_rfl) (fun _ _ _ h => h) (Or.inl ⟨by rfl, ?_⟩) hHeld ?_
      rotate_left
      · intro w hSw
        go_simp <;> with_reducible rfl
      try simp only [Act.put, List.setIfInBounds_toArray, List.set_cons_zero, List.set_cons_succ]
      refine takeAt 4 (some 49) ?_ rfl rfl (by kernel_rfl) (by kernel_rfl) (by kernel_rfl) (fun _ _ _ h => h) (Or.inl ⟨by rfl, ?_⟩) hHeld ?_
      rotate_left
      · intro w hSw
        go_simp <;> with_reducible rfl
      try simp only [Act.put, List.setIfInBounds_toArray, List.set_cons_zero, List.set_cons_succ]
      refine takeAt 5 (some 50) (.slice ca C cc) rfl rfl (by kernel_rfl) (by kernel_rfl) (by kernel_rfl) (fun _ _ _ h => h) (Or.inl ⟨by rfl, ?_⟩) hHeld ?_
      · intro w hSw
        have y4 : w.cell? ⟨wb, 4, none⟩ = _ := hSw.2
        go_simp <;> with_reducible rfl
      try simp only [Act.put, List.setIfInBounds_toArray, List.set_cons_zero, List.set_cons_succ]
      refine takeAt 6 (some 51) ?_ rfl rfl (by kernel_rfl) (by kernel_rfl) (by kernel_rfl) (fun _ _ _ h => h) (Or.inl ⟨by rfl, ?_⟩) hHeld ?_
      rotate_left
      · intro w hSw
        go_simp <;> with_reducible rfl
      try simp only [Act.put, List.setIfInBounds_toArray, List.set_cons_zero, List.set_cons_succ]
      refine takeAt 7 (some 52) ?_ rfl rfl (by kernel_rfl) (by kernel_rfl) (by kernel_rfl) (fun _ _ _ h => h) (Or.inl ⟨by rfl, ?_⟩) hHeld ?_
      rotate_left
      · intro w hSw
        go_simp <;> with_reducible rfl
      try simp only [Act.put, List.setIfInBounds_toArray, List.set_cons_zero, List.set_cons_succ]
      refine takeAt 8 (some 53) (.bool lz) rfl rfl (by kernel_rfl) (by kernel_rfl) (by kernel_rfl) (fun _ _ _ h => h) (Or.inl ⟨by rfl, ?_⟩) hHeld ?_
      · intro w hSw
        have y8 : w.cell? ⟨m, 8, none⟩ = _ := hSw.1.at rfl
        go_simp <;> with_reducible rfl
      try simp only [Act.put, List.setIfInBounds_toArray, List.set_cons_zero, List.set_cons_succ]
      refine callAt 9 54 148 (vals := #[.pointer (some ⟨wb, 0, none⟩), .int .i64 a3, .int .i64 C, .bool lz]) (by kernel_rfl) rfl rfl rfl rfl (by simp [Act.eval]) Tryz.func148 (by kernel_rfl) (by kernel_rfl) ?_
      refine Calls.mono HC9.out ?_
      rintro e w9 ⟨rfl, q1, q2⟩
      have H9 : Hid (Dw w0 wb v L root G cs _ (.slice ca C cc) w9 ∧ Adw wb (.slice ca C cc) _ (.slice ca C cc) w9) := ⟨q1, q2⟩
      clear q1 q2
      refine ⟨_, rfl, ⟨HS9.out.1.fr H9.out.2.fr (fun z => z.elim H8.out.ne H8.out.off), H9.out.1.st.at rfl⟩, fun hHeld => ?_⟩
      try simp only [Act.put, List.setIfInBounds_toArray, List.set_cons_zero, List.set_cons_succ]
      refine wpAnyH_done (by kernel_rfl) ?_ _
      refine NoPanic.normal ?_
      go_wp2_with fail
      (try simp only [Exit.inBlock, Exit.then])
      refine bodyPost_ret (results_none rfl _ _ _) rfl ?_
      rw [HRX.out]
      exact ⟨rfl, _, H9.out.1, H8.out.ad.trans H9.out.2⟩
end
end Go.Proofs.YtalmajiflmejcaaGreat
/- The document's writer: a list of places under way; a kid so many times, with a bound. -/
namespace Go.Proofs.YtalmajiflmejcaaGreat
open Go.ChangeShapes Go.WideShapes Go.ChangeAt Go.RowKit
set_option linter.unusedVariables false
set_option linter.unusedSimpArgs false
/-- A call under way, with a list of places. -/
structure Ul (w0 : World) (wb : Nat) (v : Value) (L : List Nq) (root G cs : Int) (cvS : Value) (wS : World) (lv : Value) (ls : List Nat) (x : Ds) (cv : Value) (w : World) : Prop where
  dw : Dw w0 wb v L root G cs x cv w
  ok : Okd x
  ad : Adw wb cvS wS cv w
  row : KRow w0.heap.size w lv ls
  new : ∀ j, lv.ownBlock = some j → wS.heap.size ≤ j
section
variable {w0 : World} {wb m : Nat} {v cv cv1 cv2 u cvS lv : Value} {L : List Nq} {root G cs : Int} {x y : Ds} {w w1 w2 wS : World} {l : List Value} {ls : List Nat}
theorem Ul.offw (h : Ul w0 wb v L root G cs cvS wS lv ls x cv w) : ∀ j, lv.ownBlock = some j → w0.heap.size ≤ j ∧ j ≠ wb ∧ cv.ownBlock ≠ some j := fun j hj =>
  ⟨(h.row.lt j hj).1, fun q => row_ne h.row h.dw.st (by decide) (by rw [hj, q]), row_row h.row h.dw.row (by decide) j hj⟩
theorem Ul.step (h : Ul w0 wb v L root G cs cvS wS lv ls x cv w) (hm : Lc 195 m l w) (q : Lay w0 wb v L root G cs cv w y w1) (hy : Okd y) : (∃ cv', Ul w0 wb v L root G cs cvS wS lv ls y cv' w1) ∧ Lc 195 m l w1 := by
  obtain ⟨cv', q1, q2⟩ := q
  refine ⟨⟨cv', q1, hy, h.ad.trans q2, row_fr h.row q2.fr (fun j hj z => z.elim (h.offw j hj).2.1 (h.offw j hj).2.2), h.new⟩, hm.fr q2.fr (fun z => z.elim (lc_ne hm h.dw.st (by decide)) (row_ne h.dw.row hm (by decide)))⟩
theorem Ul.kp (h : Ul w0 wb v L root G cs cvS wS lv ls x cv w) (k : Kp w w1) : Ul w0 wb v L root G cs cvS wS lv ls x cv w1 := ⟨h.dw.kpp k, h.ok, h.ad.trans (Adw.kp _ _ k), row_kp h.row k, h.new⟩
theorem Ul.snoc (h : Ul w0 wb v L root G cs cvS wS lv ls x cv w) (hm : Lc 195 m l w) {a n : Nat} (hn : ls.length = n) (k : Kp w w1) {g cap : Nat}
    (hown : w2.ownsRow w0.heap.size 3 1 (.slice (some ⟨g, 0, none⟩) (n + 1) cap) (n + 1) (nums ls ++ [.int .i64 a])) (hg : w1.grownBy w2 lv.ownBlock) (hat : lv.ownBlock = some g ∨ g = w1.heap.size) :
    Ul w0 wb v L root G cs cvS wS (.slice (some ⟨g, 0, none⟩) (n + 1) cap) (ls ++ [a]) x cv w2 ∧ Lc 195 m l w2 := by
  have f1 : Fr (fun j => lv.ownBlock = some j) w w2 := ⟨hg.os.trans k.os, hg.tape.trans k.tape, hg.output.trans k.output, Nat.le_trans k.size hg.size, fun j hj hn => by
    rw [hg.block j (Nat.lt_of_lt_of_le hj k.size) (fun e => hn e.symm)]; exact k.block j hj⟩
  refine ⟨⟨h.dw.off f1 h.offw, h.ok, ⟨h.ad.fr.trans' f1 fun j hj q => by have := h.new j q; omega, h.ad.own⟩, ?_, ?_⟩, hm.fr f1 (row_ne h.row hm (by decide))⟩
  · unfold KRow
    rw [show (ls ++ [a]).length = n + 1 by simp [hn], show nums (ls ++ [a]) = nums ls ++ [.int .i64 a] by simp [nums]]
    exact hown
  · intro j hj
    simp only [Value.ownBlock, Option.some.injEq] at hj
    subst hj
    rcases hat with e | e
    · exact h.new g e
    · rw [e]; exact Nat.le_trans h.ad.fr.size k.size
end
end Go.Proofs.YtalmajiflmejcaaGreat
/- The document's writer: a kid so many times, with a bound. -/
namespace Go.Proofs.YtalmajiflmejcaaGreat
open Go.ChangeShapes Go.WideShapes Go.ChangeAt Go.RowKit
set_option linter.unusedVariables false
set_option linter.unusedSimpArgs false
section
variable {w0 : World} {wb m : Nat} {v cv cv1 cv2 u cvS : Value} {L : List Nq} {root G cs : Int} {x y : Ds} {w w1 w2 wS : World} {l : List Value}
set_option maxHeartbeats 8000000 in
set_option maxRecDepth 100000 in
theorem dmany_fin (h : Dw w0 wb v L root G cs x cv w) (hx : Okd x) {N : Int → Ds → Ds} {k : Int} (hN : KpN N k) (HNC : NodeC w0 wb v L root G cs N k) {d : Nq} {kv : Value} (hks : Ks w0 kv d.kids) (hk0 : d.kids[0]? = some k) {mn : Nat} (hmn : d.mn = (mn : Int)) (h60 : mn ≤ 60) {mxn : Nat} (hmx : d.mx = (mxn : Int)) (hle : mn ≤ mxn) (hm60 : mxn ≤ 60) :
    Calls Tryz.prog 117 #[.pointer (some ⟨wb, 0, none⟩), d.val kv] w fun e w' => e = .returned (.tuple #[]) ∧ Lay w0 wb v L root G cs cv w (manyE N k mn d.mx d.lz x) w' := by
  obtain ⟨R, hR⟩ : ∃ R, manyE N k mn d.mx d.lz x = R := ⟨_, rfl⟩
  rw [hR]
  obtain ⟨X1, hX1⟩ : ∃ X1, repE N k mn x = X1 := ⟨_, rfl⟩
  have HX1 : Hid (repE N k mn x = X1) := hX1
  have HR : Hid (R = if X1.lg then X1 else tosE d.lz (triesE N k (mxn - mn) [] X1).1 (triesE N k (mxn - mn) [] X1).2) := by
    show _ = _
    rw [← hR, ← hX1]; unfold manyE; rw [if_neg (by omega : ¬ d.mx < 0), hmx, Int.toNat_natCast]
  clear hR hX1
  obtain ⟨ka, kc, rfl, k1, k2, hxx⟩ := id hks
  clear hxx
  obtain ⟨kb, ko, rfl, ck0⟩ := hks.cell hk0
  have U0 := Ub.new h hx d (.slice (some ⟨kb, ko, none⟩) d.kids.length kc)
  obtain ⟨op, c, st, mnI, mx, lz, nn, ks⟩ := d
  simp only at hmn hmx k1 ck0 U0 HR hks hk0
  obtain ⟨M, hM⟩ : ∃ M, ks.length = M := ⟨_, rfl⟩
  have hM0 : 0 < M := by rw [← hM]; exact (List.getElem?_eq_some_iff.1 hk0).1
  unfold Nq.val
  simp only
  rw [hM] at U0 k1 ⊢
  subst hmn
  subst hmx
  obtain ⟨i9, hi9, z0, z1, z2⟩ := info_parts infoInt
  obtain ⟨m, hm⟩ : ∃ m, w.heap.size = m := ⟨_, rfl⟩
  obtain ⟨W1, hW1⟩ : ∃ W1, w.alloc (.cells #[.int .u8 op, .int .u8 c, .int .u64 st.a, .int .u64 st.b, .int .u64 st.c, .int .u64 st.d, .int .i64 mn, .int .i64 mxn, .bool lz, .int .i64 nn, .slice (some ⟨kb, ko, none⟩) M kc] 195) = W1 := ⟨_, rfl⟩
  rw [hm, hW1] at U0
  have HU0 : Hid (Ub w0 wb v L root G cs cv w m (Nq.cells ⟨op, c, st, mn, mxn, lz, nn, ks⟩ (.slice (some ⟨kb, ko, none⟩) M kc)) x cv W1) := U0
  have HN : Hid (KpN N k ∧ NodeC w0 wb v L root G cs N k) := ⟨hN, HNC⟩
  have HCK : Hid (w0.cell? ⟨kb, ko, none⟩ = some (.int .i64 k)) := by rw [Nat.add_zero] at ck0; exact ck0
  unfold maxLen at k2
  clear h hx hN HNC hks hk0 U0 hM ck0
  go_enter Tryz.func117, Tryz.ntmps117
  go_upto_region 2 with fail
  try rw [hW1]
  try rw [hm]
  clear hW1 hm
  go_loopw [4] (fun v4 wr => ∃ i : Nat, i ≤ mn ∧ v4 = .int .i64 i ∧ Hid (∃ xr cvr, Ub w0 wb v L root G cs cv w m (Nq.cells ⟨op, c, st, mn, mxn, lz, nn, ks⟩ (.slice (some ⟨kb, ko, none⟩) M kc)) xr cvr wr ∧ repE N k (mn - i) xr = X1)) (fun v4 _ => mn - (intOf v4).toNat)
  case atStart => exact ⟨0, Nat.zero_le _, rfl, x, cv, HU0.out, HX1.out⟩
  case round =>
    obtain ⟨i, hi, rfl, xr, cvr, hq⟩ := hrel
    have HQ : Hid (Ub w0 wb v L root G cs cv w m (Nq.cells ⟨op, c, st, mn, mxn, lz, nn, ks⟩ (.slice (some ⟨kb, ko, none⟩) M kc)) xr cvr wr ∧ repE N k (mn - i) xr = X1) := hq
    clear hq
    have b6 : wr.cell? ⟨m, 6, none⟩ = some (.int .i64 mn) := HQ.out.1.bx.at rfl
    have b7 : wr.cell? ⟨m, 7, none⟩ = some (.int .i64 mxn) := HQ.out.1.bx.at rfl
    have b10 : wr.cell? ⟨m, 10, none⟩ = some (.slice (some ⟨kb, ko, none⟩) M kc) := HQ.out.1.bx.at rfl
    have ck : wr.cell? ⟨kb, ko, none⟩ = some (.int .i64 k) := kp_cell HQ.out.1.dw.kp HCK.out
    obtain ⟨g, hg⟩ : ∃ g, xr.lg = g := ⟨_, rfl⟩
    have c6 : wr.cell? ⟨wb, 6, none⟩ = some (.bool g) := by rw [← hg]; exact HQ.out.1.dw.st.at rfl
    have HG : Hid (xr.lg = g) := hg
    clear hg
    have gx : decide ((mxn : Int) < 0) = false := decide_eq_false (by omega)
    have hM1 : (0 : Int) < (M : Int) := by omega
    cases g with
    | true =>
      have HRX : Hid (R = xr) := by
        have e : X1 = xr := by
          rw [← HQ.out.2]
          cases mn - i with
          | zero => rfl
          | succ n => unfold repE; rw [HG.out]; rfl
        show _ = _
        rw [HR.out, e, HG.out]; rfl
      by_cases hlt : i < mn
      · have dl : decide ((i : Int) < (mn : Int)) = true := decide_eq_true (by omega)
        have dn : decide (i < mn) = true := decide_eq_true hlt
        go_wp2_with fail
        (try simp only [Exit.inBlock, Exit.then])
        refine bodyPost_ret (results_none rfl _ _ _) rfl ?_
        rw [HRX.out]
        exact ⟨rfl, _, HQ.out.1.dw, HQ.out.1.ad⟩
      · have dl : decide ((i : Int) < (mn : Int)) = false := decide_eq_false (by omega)
        have dn : decide (i < mn) = false := decide_eq_false hlt
        go_wp2_with fail
        (try simp only [Exit.inBlock, Exit.then])
        refine bodyPost_ret (results_none rfl _ _ _) rfl ?_
        rw [HRX.out]
        exact ⟨rfl, _, HQ.out.1.dw, HQ.out.1.ad⟩
    | false =>
    by_cases hlt : i < mn
    · have dl : decide ((i : Int) < (mn : Int)) = true := decide_eq_true (by omega)
      have dn : decide (i < mn) = true := decide_eq_true hlt
      have HC : Hid (Calls Tryz.prog 80 #[.pointer (some ⟨wb, 0, none⟩), .int .i64 k] wr fun e w' => e = .returned (.tuple #[]) ∧ Lay w0 wb v L root G cs cvr wr (N k xr) w') := HN.out.2 _ _ _ HQ.out.1.dw HQ.out.1.ok
      have HE : Hid (repE N k (mn - (i + 1)) (N k xr) = X1) := by
        have e := HQ.out.2
        rw [show mn - i = (mn - (i + 1)) + 1 by omega, repE, HG.out] at e
        exact e
      go_wp2_with fail
      refine Calls.mono HC.out ?_
      rintro e w5 ⟨rfl, q1⟩
      have H5 : Hid (∃ cv', Ub w0 wb v L root G cs cv w m (Nq.cells ⟨op, c, st, mn, mxn, lz, nn, ks⟩ (.slice (some ⟨kb, ko, none⟩) M kc)) (N k xr) cv' w5) := HQ.out.1.step q1 (HN.out.1 _ HQ.out.1.ok).ok
      clear q1 b6 b7 b10 ck c6
      go_wp2_with fail
      go_roundw
      case rel =>
        obtain ⟨cv', q⟩ := H5.out
        exact ⟨i + 1, by omega, by go_num, _, cv', q, HE.out⟩
      case measure => simp only [intOf]; omega
    · have dl : decide ((i : Int) < (mn : Int)) = false := decide_eq_false (by omega)
      have dn : decide (i < mn) = false := decide_eq_false hlt
      have HXE : Hid (X1 = xr) := by
        have e := HQ.out.2
        rw [show mn - i = 0 by omega, repE] at e
        exact e.symm
      obtain ⟨⟨tl, tx⟩, htt⟩ : ∃ X, triesE N k (mxn - mn) [] xr = X := ⟨_, rfl⟩
      have HRT : Hid (R = tosE lz tl tx) := by
        show _ = _
        rw [HR.out, HXE.out, HG.out]
        simp only [Bool.false_eq_true, if_false]
        rw [htt]
      have HS2 : Hid (Ul w0 wb v L root G cs cv w (.slice none 0 0) [] xr cvr wr ∧ Lc 195 m (Nq.cells ⟨op, c, st, mn, mxn, lz, nn, ks⟩ (.slice (some ⟨kb, ko, none⟩) M kc)) wr ∧ triesE N k (mxn - mn) [] xr = (tl, tx)) := ⟨⟨HQ.out.1.dw, HQ.out.1.ok, HQ.out.1.ad, leaf_row _ _, fun j hj => by cases hj⟩, HQ.out.1.bx, htt⟩
      clear htt
      go_wp2_with fail
      clear b6 b7 b10 ck c6 dl dn
      go_loopw [6, 7] (fun v6 v7 wr => ∃ i : Nat, (mn ≤ i ∧ i ≤ mxn) ∧ v7 = .int .i64 i ∧ Hid (∃ ls xr cvr, Ul w0 wb v L root G cs cv w v6 ls xr cvr wr ∧ Lc 195 m (Nq.cells ⟨op, c, st, mn, mxn, lz, nn, ks⟩ (.slice (some ⟨kb, ko, none⟩) M kc)) wr ∧ triesE N k (mxn - i) ls xr = (tl, tx) ∧ (∀ a ∈ ls, a < xr.c.length) ∧ ls.length + mn = i)) (fun _ v7 _ => mxn - (intOf v7).toNat)
      case atStart => exact ⟨mn, ⟨Nat.le_refl _, hle⟩, rfl, [], xr, cvr, HS2.out.1, HS2.out.2.1, HS2.out.2.2, by simp, by simp⟩
      case round =>
        clear HQ HG HXE HS2
        obtain ⟨i2, hi2, rfl, ls, xs, cvs, hq⟩ := hrel
        obtain ⟨la, lc, rfl, l1, l2⟩ := owns_form hq.1.row
        obtain ⟨Ln, hLn⟩ : ∃ Ln, ls.length = Ln := ⟨_, rfl⟩
        rw [hLn] at hq l1 ⊢
        have HQ : Hid (Ul w0 wb v L root G cs cv w (.slice la Ln lc) ls xs cvs wr ∧ Lc 195 m (Nq.cells ⟨op, c, st, mn, mxn, lz, nn, ks⟩ (.slice (some ⟨kb, ko, none⟩) M kc)) wr ∧ triesE N k (mxn - i2) ls xs = (tl, tx) ∧ (∀ a ∈ ls, a < xs.c.length) ∧ Ln + mn = i2) := hq
        have HLn : Hid (ls.length = Ln) := hLn
        clear hq hLn
        unfold maxLen at l2
        have hLn6 : Ln ≤ 60 := by have := HQ.out.2.2.2.2; omega
        have b7 : wr.cell? ⟨m, 7, none⟩ = some (.int .i64 mxn) := HQ.out.2.1.at rfl
        have b10 : wr.cell? ⟨m, 10, none⟩ = some (.slice (some ⟨kb, ko, none⟩) M kc) := HQ.out.2.1.at rfl
        have ck : wr.cell? ⟨kb, ko, none⟩ = some (.int .i64 k) := kp_cell HQ.out.1.dw.kp HCK.out
        obtain ⟨g, hg⟩ : ∃ g, xs.lg = g := ⟨_, rfl⟩
        have c6 : wr.cell? ⟨wb, 6, none⟩ = some (.bool g) := by rw [← hg]; exact HQ.out.1.dw.st.at rfl
        have HG : Hid (xs.lg = g) := hg
        clear hg
        by_cases hgo : i2 < mxn ∧ g = false
        · obtain ⟨hlt2, rfl⟩ := hgo
          have dl : decide ((i2 : Int) < (mxn : Int)) = true := decide_eq_true (by omega)
          have dn : decide (i2 < mxn) = true := decide_eq_true hlt2
          obtain ⟨⟨a3, x3⟩, h3⟩ : ∃ X, roundE N k xs = X := ⟨_, rfl⟩
          have HC : Hid (Calls Tryz.prog 149 #[.pointer (some ⟨wb, 0, none⟩), .int .i64 k] wr fun e w' => e = .returned (.int .i64 a3) ∧ Lay w0 wb v L root G cs cvs wr x3 w') := by
            have := dround_any HQ.out.1.dw HQ.out.1.ok HG.out HN.out.1 HN.out.2
            rw [h3] at this
            exact this
          have HK3 : Hid (Kpd xs x3 ∧ a3 < x3.c.length) := by
            have := round_kpd HN.out.1 HQ.out.1.ok HG.out
            rw [h3] at this
            exact this
          have HE3 : Hid (triesE N k (mxn - (i2 + 1)) (ls ++ [a3]) x3 = (tl, tx)) := by
            have e := HQ.out.2.2.1
            rw [show mxn - i2 = (mxn - (i2 + 1)) + 1 by omega, triesE, HG.out, h3] at e
            exact e
          clear h3
          go_wp2_with (first | (go_at_call 149; refine Calls.mono HC.out ?_; rintro e w7 ⟨rfl, q1⟩; obtain ⟨⟨cv7, q2⟩, q3⟩ := HQ.out.1.step HQ.out.2.1 q1 HK3.out.1.ok; have H7 : Hid (Ul w0 wb v L root G cs cv w (.slice la Ln lc) ls x3 cv7 w7 ∧ Lc 195 m (Nq.cells ⟨op, c, st, mn, mxn, lz, nn, ks⟩ (.slice (some ⟨kb, ko, none⟩) M kc)) w7) := ⟨q2, q3⟩; clear q1 q2 q3; have HOW : Hid ((w7.alloc (.cells #[.int .i64 a3] 3)).ownsRow w0.heap.size 3 1 (.slice la Ln lc) Ln (nums ls)) := (by have := row_kp H7.out.1.row (kp_alloc w7 (.cells #[.int .i64 a3] 3)); rw [HLn.out] at this; exact this); have HNEW : Hid (∀ p u, ([.int .i64 a3] : List Value)[p]? = some u → (w7.alloc (.cells #[.int .i64 a3] 3)).cell? ((⟨w7.heap.size, 0, none⟩ : Addr).add p) = some u) := (by intro p u hp; rw [Addr.add_lit, cell_at (alloc_new w7 _), Nat.zero_add, ← hp]; exact List.getElem?_toArray); have HONE : Hid (∀ u ∈ ([.int .i64 a3] : List Value), u.oneCell' = true) := (by intro u hu; simp only [List.mem_singleton] at hu; subst hu; rfl); have HSZ : Hid ((w7.alloc (.cells #[.int .i64 a3] 3)).heap.size = w7.heap.size + 1) := alloc_size _ _; have HBW : Hid (w0.heap.size ≤ (w7.alloc (.cells #[.int .i64 a3] 3)).heap.size) := (by have := H7.out.1.dw.kp.size; have := HSZ.out; show w0.heap.size ≤ _; omega)) | (at_builtin; refine wpList_append_lies _ rfl (.tmp 70) (.tmp 77) 47 rfl w0.heap.size 3 i9 _ 1 8 Tryz.underlying47 hi9 z0 z1 z2 rfl (by decide) (.slice la Ln lc) Ln (nums ls) rfl HOW.out ⟨w7.heap.size, 0, none⟩ 1 1 [.int .i64 a3] rfl rfl HNEW.out HONE.out (by omega) (by unfold maxLen; omega) (by omega) HBW.out (w7.heap.size + 1) HSZ.out ?_; intro g cp w8 hown hgrow hat hlt; have HF : Hid (Ul w0 wb v L root G cs cv w (.slice (some ⟨g, 0, none⟩) (Ln + 1) cp) (ls ++ [a3]) x3 cv7 w8 ∧ Lc 195 m (Nq.cells ⟨op, c, st, mn, mxn, lz, nn, ks⟩ (.slice (some ⟨kb, ko, none⟩) M kc)) w8) := H7.out.1.snoc H7.out.2 HLn.out (kp_alloc w7 _) hown hgrow (by rw [HSZ.out]; exact hat); clear hown hgrow hat hlt))
          go_roundw
          case rel =>
            refine ⟨i2 + 1, ⟨by omega, by omega⟩, by go_num, ls ++ [a3], x3, cv7, HF.out.1, HF.out.2, HE3.out, ?_, ?_⟩
            · intro a ha
              rcases List.mem_append.1 ha with z | z
              · exact Nat.lt_of_lt_of_le (HQ.out.2.2.2.1 a z) HK3.out.1.len
              · simp only [List.mem_singleton] at z; subst z; exact HK3.out.2
            · have h1 := HLn.out
              have h2 := HQ.out.2.2.2.2
              simp only [List.length_append, List.length_singleton]
              omega
          case measure => simp only [intOf]; omega
        · have HTE : Hid (tl = ls ∧ tx = xs) := by
            have e := HQ.out.2.2.1
            have e2 : triesE N k (mxn - i2) ls xs = (ls, xs) := by
              cases hz : mxn - i2 with
              | zero => rfl
              | succ n =>
                rw [triesE]
                cases g with
                | true => rw [HG.out]; rfl
                | false => exact absurd ⟨by omega, rfl⟩ hgo
            rw [e2] at e
            injection e with e1 e2
            exact ⟨e1.symm, e2.symm⟩
          have HS3 : Hid (Ul w0 wb v L root G cs cv w (.slice la Ln lc) ls xs cvs wr ∧ Lc 195 m (Nq.cells ⟨op, c, st, mn, mxn, lz, nn, ks⟩ (.slice (some ⟨kb, ko, none⟩) M kc)) wr ∧ tosE lz ls xs = R ∧ (∀ a ∈ ls, a < xs.c.length)) := ⟨HQ.out.1, HQ.out.2.1, by rw [HRT.out, HTE.out.1, HTE.out.2], HQ.out.2.2.2.1⟩
          have HGO : Hid (¬ (i2 < mxn ∧ g = false)) := hgo
          clear hgo
          by_cases hlt2 : i2 < mxn
          · have dl : decide ((i2 : Int) < (mxn : Int)) = true := decide_eq_true (by omega)
            have dn : decide (i2 < mxn) = true := decide_eq_true hlt2
            obtain rfl : g = true := by
              cases g with
              | true => rfl
              | false => exact absurd ⟨hlt2, rfl⟩ HGO.out
            go_wp2_with fail
            clear b7 b10 ck c6 dl dn
            go_loopw [8] (fun v8 wr => ∃ j : Nat, j ≤ Ln ∧ v8 = .int .i64 j ∧ Hid (∃ xq cvq, Ul w0 wb v L root G cs cv w (.slice la Ln lc) ls xq cvq wr ∧ Lc 195 m (Nq.cells ⟨op, c, st, mn, mxn, lz, nn, ks⟩ (.slice (some ⟨kb, ko, none⟩) M kc)) wr ∧ tosE lz (ls.drop j) xq = R ∧ (∀ a ∈ ls, a < xq.c.length))) (fun v8 _ => Ln - (intOf v8).toNat)
            case atStart => exact ⟨0, Nat.zero_le _, rfl, xs, cvs, HS3.out.1, HS3.out.2.1, HS3.out.2.2.1, HS3.out.2.2.2⟩
            case round =>
            clear HQ HS3
            obtain ⟨j, hj, rfl, xq, cvq, hq⟩ := hrel
            have HQ : Hid (Ul w0 wb v L root G cs cv w (.slice la Ln lc) ls xq cvq wr ∧ Lc 195 m (Nq.cells ⟨op, c, st, mn, mxn, lz, nn, ks⟩ (.slice (some ⟨kb, ko, none⟩) M kc)) wr ∧ tosE lz (ls.drop j) xq = R ∧ (∀ a ∈ ls, a < xq.c.length)) := hq
            clear hq
            by_cases hjl : j < Ln
            · have dl : decide ((j : Int) < (Ln : Int)) = true := decide_eq_true (by omega)
              have dn : decide (j < Ln) = true := decide_eq_true hjl
              have hjs : j < ls.length := by rw [HLn.out]; exact hjl
              obtain ⟨a3, ha3⟩ : ∃ a, ls[j]? = some a := ⟨_, List.getElem?_eq_getElem hjs⟩
              have hmem : a3 ∈ ls := List.mem_of_getElem? ha3
              have hmap : (ls.map fun (k : Nat) => (k : Int))[j]? = some (a3 : Int) := by rw [List.getElem?_map, ha3]; rfl
              have hdr : ls.drop j = a3 :: ls.drop (j + 1) := by
                obtain ⟨hl, he⟩ := List.getElem?_eq_some_iff.1 ha3
                rw [← he]; exact List.drop_eq_getElem_cons hl
              obtain ⟨lb, lo, rfl, lcel⟩ := (krow_ks (HQ.out.1.kp (kp_drew _)).row).cell hmap
              have HMAP : Hid ((ls.map fun (k : Nat) => (k : Int))[j]? = some (a3 : Int)) := hmap
              obtain ⟨ca, cc, hca, v1, v2⟩ := owns_form HQ.out.1.dw.row
              obtain ⟨C, hC⟩ : ∃ C, xq.c.length = C := ⟨_, rfl⟩
              rw [hC] at hca v1
              subst hca
              have H8 : Hid (Ul w0 wb v L root G cs cv w (.slice (some ⟨lb, lo, none⟩) Ln lc) ls xq (.slice ca C cc) wr.drew ∧ Lc 195 m (Nq.cells ⟨op, c, st, mn, mxn, lz, nn, ks⟩ (.slice (some ⟨kb, ko, none⟩) M kc)) wr.drew) := ⟨HQ.out.1.kp (kp_drew _), HQ.out.2.1.kp (kp_drew _)⟩
              have HOK : Hid (Okd { xq with c := toL xq.c a3 C lz }) := okd_to HQ.out.1.ok _ _ _
              have HC9 : Hid (Calls Tryz.prog 148 #[.pointer (some ⟨wb, 0, none⟩), .int .i64 a3, .int .i64 C, .bool lz] wr.drew fun e w' => e = .returned (.tuple #[]) ∧ Hid (Dw w0 wb v L root G cs { xq with c := toL xq.c a3 C lz } (.slice ca C cc) w' ∧ Adw wb (.slice ca C cc) wr.drew (.slice ca C cc) w')) := dto_any H8.out.1.dw (HQ.out.2.2.2 a3 hmem) (by have := HQ.out.1.ok.len; omega) C lz
              have HS9 : Hid (Lc 195 m (Nq.cells ⟨op, c, st, mn, mxn, lz, nn, ks⟩ (.slice (some ⟨kb, ko, none⟩) M kc)) wr.drew ∧ wr.drew.cell? ⟨wb, 4, none⟩ = some (.slice ca C cc) ∧ wr.drew.cell? ⟨lb, lo + j, none⟩ = some (.int .i64 a3)) := ⟨H8.out.2, H8.out.1.dw.st.at rfl, lcel⟩
              have HPT : Hid (∀ w9, Hid (Dw w0 wb v L root G cs { xq with c := toL xq.c a3 C lz } (.slice ca C cc) w9 ∧ Adw wb (.slice ca C cc) wr.drew (.slice ca C cc) w9) → (∃ cv', Ul w0 wb v L root G cs cv w (.slice (some ⟨lb, lo, none⟩) Ln lc) ls { xq with c := toL xq.c a3 C lz } cv' w9) ∧ Lc 195 m (Nq.cells ⟨op, c, st, mn, mxn, lz, nn, ks⟩ (.slice (some ⟨kb, ko, none⟩) M kc)) w9) := fun w9 q => H8.out.1.step H8.out.2 ⟨_, q.out.1, q.out.2⟩ HOK.out
              have HPS : Hid (∀ w9, Hid (Dw w0 wb v L root G cs { xq with c := toL xq.c a3 C lz } (.slice ca C cc) w9 ∧ Adw wb (.slice ca C cc) wr.drew (.slice ca C cc) w9) → Lc 195 m (Nq.cells ⟨op, c, st, mn, mxn, lz, nn, ks⟩ (.slice (some ⟨kb, ko, none⟩) M kc)) w9 ∧ w9.cell? ⟨wb, 4, none⟩ = some (.slice ca C cc) ∧ w9.cell? ⟨lb, lo + j, none⟩ = some (.int .i64 a3)) := fun w9 q => by
                obtain ⟨⟨cv', u1⟩, u2⟩ := HPT.out w9 q
                obtain ⟨b', o', e', z'⟩ := (krow_ks u1.row).cell HMAP.out
                injection e' with e'
                injection e' with e1 e2
                subst e1 e2
                exact ⟨u2, q.out.1.st.at rfl, z'⟩
              have HE9 : Hid (tosE lz (ls.drop (j + 1)) { xq with c := toL xq.c a3 C lz } = R ∧ ∀ a ∈ ls, a < (toL xq.c a3 C lz).length) := by
                have e := HQ.out.2.2.1
                rw [hdr, tosE, hC] at e
                exact ⟨e, fun a ha => by rw [toL_len]; exact HQ.out.2.2.2 a ha⟩
              have hjN : (0 : Int) ≤ (j : Int) ∧ (j : Int) < (Ln : Int) := by omega
              clear hjs ha3 hmem hmap hdr lcel hC
              go_upto_region 18 with fail
              refine wp_region_noPanic ?_
              refine wp_region_held_drew (S := fun z => Lc 195 m (Nq.cells ⟨op, c, st, mn, mxn, lz, nn, ks⟩ (.slice (some ⟨kb, ko, none⟩) M kc)) z ∧ z.cell? ⟨wb, 4, none⟩ = some (.slice ca C cc) ∧ z.cell? ⟨lb, lo + j, none⟩ = some (.int .i64 a3)) (by kernel_rfl) (HS9.out) (fun hHeld => ?_)
              refine takeAt 0 (some 85) ?_ rfl rfl (by kernel_rfl) (by kernel_rfl) (by kernel_rfl) (fun _ _ _ h => h) (Or.inl ⟨by rfl, ?_⟩) hHeld ?_
              rotate_left
              · intro w hSw
                go_simp <;> with_reducible rfl
              try simp only [Act.put, List.setIfInBounds_toArray, List.set_cons_zero, List.set_cons_succ]
              refine takeAt 1 (some 86) ?_ rfl rfl (by kernel_rfl) (by kernel_rfl) (by kernel_rfl) (fun _ _ _ h => h) (Or.inl ⟨by rfl, ?_⟩) hHeld ?_
              rotate_left
              · intro w hSw
                go_simp <;> with_reducible rfl
              try simp only [Act.put, List.setIfInBounds_toArray, List.set_cons_zero, List.set_cons_succ]
              refine takeAt 2 (some 87) ?_ rfl rfl (by kernel_rfl) (by kernel_rfl) (by kernel_rfl) (fun _ _ _ h => h) (Or.inl ⟨by rfl, ?_⟩) hHeld ?_
              rotate_left
              · intro w hSw
                go_simp <;> with_reducible rfl
              try simp only [Act.put, List.setIfInBounds_toArray, List.set_cons_zero, List.set_cons_succ]
              refine takeAt 3 (some 88) ?_ rfl rfl (by kernel_rfl) (by kernel_rfl) (by kernel_rfl) (fun _ _ _ h => h) (Or.inl ⟨by rfl, ?_⟩) hHeld ?_
              rotate_left
              · intro w hSw
                go_simp <;> with_reducible rfl
              try simp only [Act.put, List.setIfInBounds_toArray, List.set_cons_zero, List.set_cons_succ]
              refine takeAt 4 (some 89) (.int .i64 a3) rfl rfl (by kernel_rfl) (by kernel_rfl) (by kernel_rfl) (fun _ _ _ h => h) (Or.inl ⟨by rfl, ?_⟩) hHeld ?_
              · intro w hSw
                have y3 : w.cell? ⟨lb, lo + j, none⟩ = _ := hSw.2.2
                go_simp <;> with_reducible rfl
              try simp only [Act.put, List.setIfInBounds_toArray, List.set_cons_zero, List.set_cons_succ]
              refine takeAt 5 (some 90) ?_ rfl rfl (by kernel_rfl) (by kernel_rfl) (by kernel_rfl) (fun _ _ _ h => h) (Or.inl ⟨by rfl, ?_⟩) hHeld ?_
              rotate_left
              · intro w hSw
                go_simp <;> with_reducible rfl
              try simp only [Act.put, List.setIfInBounds_toArray, List.set_cons_zero, List.set_cons_succ]
              refine takeAt 6 (some 91) ?_ rfl rfl (by kernel_rfl) (by kernel_rfl) (by kernel_rfl) (fun _ _ _ h => h) (Or.inl ⟨by rfl, ?_⟩) hHeld ?_
              rotate_left
              · intro w hSw
                go_simp <;> with_reducible rfl
              try simp only [Act.put, List.setIfInBounds_toArray, List.set_cons_zero, List.set_cons_succ]
              refine takeAt 7 (some 92) ?_ rfl rfl (by kernel_rfl) (by kernel_rfl) (by kernel_rfl) (fun _ _ _ h => h) (Or.inl ⟨by rfl, ?_⟩) hHeld ?_
              rotate_left
              · intro w hSw
                go_simp <;> with_reducible rfl
              try simp only [Act.put, List.setIfInBounds_toArray, List.set_cons_zero, List.set_cons_succ]
              refine takeAt 8 (some 93) (.slice ca C cc) rfl rfl (by kernel_rfl) (by kernel_rfl) (by kernel_rfl) (fun _ _ _ h => h) (Or.inl ⟨by rfl, ?_⟩) hHeld ?_
              · intro w hSw
                have y4 : w.cell? ⟨wb, 4, none⟩ = _ := hSw.2.1
                go_simp <;> with_reducible rfl
              try simp only [Act.put, List.setIfInBounds_toArray, List.set_cons_zero, List.set_cons_succ]
              refine takeAt 9 (some 94) ?_ rfl rfl (by kernel_rfl) (by kernel_rfl) (by kernel_rfl) (fun _ _ _ h => h) (Or.inl ⟨by rfl, ?_⟩) hHeld ?_
              rotate_left
              · intro w hSw
                go_simp <;> with_reducible rfl
              try simp only [Act.put, List.setIfInBounds_toArray, List.set_cons_zero, List.set_cons_succ]
              refine takeAt 10 (some 95) ?_ rfl rfl (by kernel_rfl) (by kernel_rfl) (by kernel_rfl) (fun _ _ _ h => h) (Or.inl ⟨by rfl, ?_⟩) hHeld ?_
              rotate_left
              · intro w hSw
                go_simp <;> with_reducible rfl
              try simp only [Act.put, List.setIfInBounds_toArray, List.set_cons_zero, List.set_cons_succ]
              refine takeAt 11 (some 96) (.bool lz) rfl rfl (by kernel_rfl) (by kernel_rfl) (by kernel_rfl) (fun _ _ _ h => h) (Or.inl ⟨by rfl, ?_⟩) hHeld ?_
              · intro w hSw
                have y8 : w.cell? ⟨m, 8, none⟩ = _ := hSw.1.at rfl
                go_simp <;> with_reducible rfl
              try simp only [Act.put, List.setIfInBounds_toArray, List.set_cons_zero, List.set_cons_succ]
              refine callAt 12 97 148 (vals := #[.pointer (some ⟨wb, 0, none⟩), .int .i64 a3, .int .i64 C, .bool lz]) (by kernel_rfl) rfl rfl rfl rfl (by simp [Act.eval]) Tryz.func148 (by kernel_rfl) (by kernel_rfl) ?_
              refine Calls.mono HC9.out ?_
              rintro e w9 ⟨rfl, H9⟩
              have HS99 : Hid (Lc 195 m (Nq.cells ⟨op, c, st, mn, mxn, lz, nn, ks⟩ (.slice (some ⟨kb, ko, none⟩) M kc)) w9 ∧ w9.cell? ⟨wb, 4, none⟩ = some (.slice ca C cc) ∧ w9.cell? ⟨lb, lo + j, none⟩ = some (.int .i64 a3)) := HPS.out w9 H9
              refine ⟨_, rfl, HS99.out, fun hHeld => ?_⟩
              try simp only [Act.put, List.setIfInBounds_toArray, List.set_cons_zero, List.set_cons_succ]
              refine wpAnyH_done (by kernel_rfl) ?_ _
              refine NoPanic.normal ?_
              have HX9 : Hid _ := HPT.out w9 H9
              go_wp2_with fail
              go_roundw
              case rel =>
                obtain ⟨⟨cv', u1⟩, u2⟩ := HX9.out
                exact ⟨j + 1, by omega, by go_num, _, cv', u1, u2, HE9.out.1, HE9.out.2⟩
              case measure => simp only [intOf]; omega
            · obtain rfl : j = Ln := by omega
              have dl : decide ((j : Int) < (j : Int)) = false := by simp
              have HRX : Hid (R = xq) := by
                have e := HQ.out.2.2.1
                rw [List.drop_eq_nil_of_le (Nat.le_of_eq HLn.out), tosE] at e
                exact e.symm
              go_wp2_with fail
              go_end0
              rw [HRX.out]
              exact ⟨rfl, _, HQ.out.1.dw, HQ.out.1.ad⟩
          · have dl : decide ((i2 : Int) < (mxn : Int)) = false := decide_eq_false (by omega)
            have dn : decide (i2 < mxn) = false := decide_eq_false hlt2
            go_wp2_with fail
            clear b7 b10 ck c6 dl dn
            go_loopw [8] (fun v8 wr => ∃ j : Nat, j ≤ Ln ∧ v8 = .int .i64 j ∧ Hid (∃ xq cvq, Ul w0 wb v L root G cs cv w (.slice la Ln lc) ls xq cvq wr ∧ Lc 195 m (Nq.cells ⟨op, c, st, mn, mxn, lz, nn, ks⟩ (.slice (some ⟨kb, ko, none⟩) M kc)) wr ∧ tosE lz (ls.drop j) xq = R ∧ (∀ a ∈ ls, a < xq.c.length))) (fun v8 _ => Ln - (intOf v8).toNat)
            case atStart => exact ⟨0, Nat.zero_le _, rfl, xs, cvs, HS3.out.1, HS3.out.2.1, HS3.out.2.2.1, HS3.out.2.2.2⟩
            case round =>
            clear HQ HS3
            obtain ⟨j, hj, rfl, xq, cvq, hq⟩ := hrel
            have HQ : Hid (Ul w0 wb v L root G cs cv w (.slice la Ln lc) ls xq cvq wr ∧ Lc 195 m (Nq.cells ⟨op, c, st, mn, mxn, lz, nn, ks⟩ (.slice (some ⟨kb, ko, none⟩) M kc)) wr ∧ tosE lz (ls.drop j) xq = R ∧ (∀ a ∈ ls, a < xq.c.length)) := hq
            clear hq
            by_cases hjl : j < Ln
            · have dl : decide ((j : Int) < (Ln : Int)) = true := decide_eq_true (by omega)
              have dn : decide (j < Ln) = true := decide_eq_true hjl
              have hjs : j < ls.length := by rw [HLn.out]; exact hjl
              obtain ⟨a3, ha3⟩ : ∃ a, ls[j]? = some a := ⟨_, List.getElem?_eq_getElem hjs⟩
              have hmem : a3 ∈ ls := List.mem_of_getElem? ha3
              have hmap : (ls.map fun (k : Nat) => (k : Int))[j]? = some (a3 : Int) := by rw [List.getElem?_map, ha3]; rfl
              have hdr : ls.drop j = a3 :: ls.drop (j + 1) := by
                obtain ⟨hl, he⟩ := List.getElem?_eq_some_iff.1 ha3
                rw [← he]; exact List.drop_eq_getElem_cons hl
              obtain ⟨lb, lo, rfl, lcel⟩ := (krow_ks (HQ.out.1.kp (kp_drew _)).row).cell hmap
              have HMAP : Hid ((ls.map fun (k : Nat) => (k : Int))[j]? = some (a3 : Int)) := hmap
              obtain ⟨ca, cc, hca, v1, v2⟩ := owns_form HQ.out.1.dw.row
              obtain ⟨C, hC⟩ : ∃ C, xq.c.length = C := ⟨_, rfl⟩
              rw [hC] at hca v1
              subst hca
              have H8 : Hid (Ul w0 wb v L root G cs cv w (.slice (some ⟨lb, lo, none⟩) Ln lc) ls xq (.slice ca C cc) wr.drew ∧ Lc 195 m (Nq.cells ⟨op, c, st, mn, mxn, lz, nn, ks⟩ (.slice (some ⟨kb, ko, none⟩) M kc)) wr.drew) := ⟨HQ.out.1.kp (kp_drew _), HQ.out.2.1.kp (kp_drew _)⟩
              have HOK : Hid (Okd { xq with c := toL xq.c a3 C lz }) := okd_to HQ.out.1.ok _ _ _
              have HC9 : Hid (Calls Tryz.prog 148 #[.pointer (some ⟨wb, 0, none⟩), .int .i64 a3, .int .i64 C, .bool lz] wr.drew fun e w' => e = .returned (.tuple #[]) ∧ Hid (Dw w0 wb v L root G cs { xq with c := toL xq.c a3 C lz } (.slice ca C cc) w' ∧ Adw wb (.slice ca C cc) wr.drew (.slice ca C cc) w')) := dto_any H8.out.1.dw (HQ.out.2.2.2 a3 hmem) (by have := HQ.out.1.ok.len; omega) C lz
              have HS9 : Hid (Lc 195 m (Nq.cells ⟨op, c, st, mn, mxn, lz, nn, ks⟩ (.slice (some ⟨kb, ko, none⟩) M kc)) wr.drew ∧ wr.drew.cell? ⟨wb, 4, none⟩ = some (.slice ca C cc) ∧ wr.drew.cell? ⟨lb, lo + j, none⟩ = some (.int .i64 a3)) := ⟨H8.out.2, H8.out.1.dw.st.at rfl, lcel⟩
              have HPT : Hid (∀ w9, Hid (Dw w0 wb v L root G cs { xq with c := toL xq.c a3 C lz } (.slice ca C cc) w9 ∧ Adw wb (.slice ca C cc) wr.drew (.slice ca C cc) w9) → (∃ cv', Ul w0 wb v L root G cs cv w (.slice (some ⟨lb, lo, none⟩) Ln lc) ls { xq with c := toL xq.c a3 C lz } cv' w9) ∧ Lc 195 m (Nq.cells ⟨op, c, st, mn, mxn, lz, nn, ks⟩ (.slice (some ⟨kb, ko, none⟩) M kc)) w9) := fun w9 q => H8.out.1.step H8.out.2 ⟨_, q.out.1, q.out.2⟩ HOK.out
              have HPS : Hid (∀ w9, Hid (Dw w0 wb v L root G cs { xq with c := toL xq.c a3 C lz } (.slice ca C cc) w9 ∧ Adw wb (.slice ca C cc) wr.drew (.slice ca C cc) w9) → Lc 195 m (Nq.cells ⟨op, c, st, mn, mxn, lz, nn, ks⟩ (.slice (some ⟨kb, ko, none⟩) M kc)) w9 ∧ w9.cell? ⟨wb, 4, none⟩ = some (.slice ca C cc) ∧ w9.cell? ⟨lb, lo + j, none⟩ = some (.int .i64 a3)) := fun w9 q => by
                obtain ⟨⟨cv', u1⟩, u2⟩ := HPT.out w9 q
                obtain ⟨b', o', e', z'⟩ := (krow_ks u1.row).cell HMAP.out
                injection e' with e'
                injection e' with e1 e2
                subst e1 e2
                exact ⟨u2, q.out.1.st.at rfl, z'⟩
              have HE9 : Hid (tosE lz (ls.drop (j + 1)) { xq with c := toL xq.c a3 C lz } = R ∧ ∀ a ∈ ls, a < (toL xq.c a3 C lz).length) := by
                have e := HQ.out.2.2.1
                rw [hdr, tosE, hC] at e
                exact ⟨e, fun a ha => by rw [toL_len]; exact HQ.out.2.2.2 a ha⟩
              have hjN : (0 : Int) ≤ (j : Int) ∧ (j : Int) < (Ln : Int) := by omega
              clear hjs ha3 hmem hmap hdr lcel hC
              go_upto_region 18 with fail
              refine wp_region_noPanic ?_
              refine wp_region_held_drew (S := fun z => Lc 195 m (Nq.cells ⟨op, c, st, mn, mxn, lz, nn, ks⟩ (.slice (some ⟨kb, ko, none⟩) M kc)) z ∧ z.cell? ⟨wb, 4, none⟩ = some (.slice ca C cc) ∧ z.cell? ⟨lb, lo + j, none⟩ = some (.int .i64 a3)) (by kernel_rfl) (HS9.out) (fun hHeld => ?_)
              refine takeAt 0 (some 85) ?_ rfl rfl (by kernel_rfl) (by kernel_rfl) (by kernel_rfl) (fun _ _ _ h => h) (Or.inl ⟨by rfl, ?_⟩) hHeld ?_
              rotate_left
              · intro w hSw
                go_simp <;> with_reducible rfl
              try simp only [Act.put, List.setIfInBounds_toArray, List.set_cons_zero, List.set_cons_succ]
              refine takeAt 1 (some 86) ?_ rfl rfl (by kernel_rfl) (by kernel_rfl) (by kernel_rfl) (fun _ _ _ h => h) (Or.inl ⟨by rfl, ?_⟩) hHeld ?_
              rotate_left
              · intro w hSw
                go_simp <;> with_reducible rfl
              try simp only [Act.put, List.setIfInBounds_toArray, List.set_cons_zero, List.set_cons_succ]
              refine takeAt 2 (some 87) ?_ rfl rfl (by kernel_rfl) (by kernel_rfl) (by kernel_rfl) (fun _ _ _ h => h) (Or.inl ⟨by rfl, ?_⟩) hHeld ?_
              rotate_left
              · intro w hSw
                go_simp <;> with_reducible rfl
              try simp only [Act.put, List.setIfInBounds_toArray, List.set_cons_zero, List.set_cons_succ]
              refine takeAt 3 (some 88) ?_ rfl rfl (by kernel_rfl) (by kernel_rfl) (by kernel_rfl) (fun _ _ _ h => h) (Or.inl ⟨by rfl, ?_⟩) hHeld ?_
              rotate_left
              · intro w hSw
                go_simp <;> with_reducible rfl
              try simp only [Act.put, List.setIfInBounds_toArray, List.set_cons_zero, List.set_cons_succ]
              refine takeAt 4 (some 89) (.int .i64 a3) rfl rfl (by kernel_rfl) (by kernel_rfl) (by kernel_rfl) (fun _ _ _ h => h) (Or.inl ⟨by rfl, ?_⟩) hHeld ?_
              · intro w hSw
                have y3 : w.cell? ⟨lb, lo + j, none⟩ = _ := hSw.2.2
                go_simp <;> with_reducible rfl
              try simp only [Act.put, List.setIfInBounds_toArray, List.set_cons_zero, List.set_cons_succ]
              refine takeAt 5 (some 90) ?_ rfl rfl (by kernel_rfl) (by kernel_rfl) (by kernel_rfl) (fun _ _ _ h => h) (Or.inl ⟨by rfl, ?_⟩) hHeld ?_
              rotate_left
              · intro w hSw
                go_simp <;> with_reducible rfl
              try simp only [Act.put, List.setIfInBounds_toArray, List.set_cons_zero, List.set_cons_succ]
              refine takeAt 6 (some 91) ?_ rfl rfl (by kernel_rfl) (by kernel_rfl) (by kernel_rfl) (fun _ _ _ h => h) (Or.inl ⟨by rfl, ?_⟩) hHeld ?_
              rotate_left
              · intro w hSw
                go_simp <;> with_reducible rfl
              try simp only [Act.put, List.setIfInBounds_toArray, List.set_cons_zero, List.set_cons_succ]
              refine takeAt 7 (some 92) ?_ rfl rfl (by kernel_rfl) (by kernel_rfl) (by kernel_rfl) (fun _ _ _ h => h) (Or.inl ⟨by rfl, ?_⟩) hHeld ?_
              rotate_left
              · intro w hSw
                go_simp <;> with_reducible rfl
              try simp only [Act.put, List.setIfInBounds_toArray, List.set_cons_zero, List.set_cons_succ]
              refine takeAt 8 (some 93) (.slice ca C cc) rfl rfl (by kernel_rfl) (by kernel_rfl) (by kernel_rfl) (fun _ _ _ h => h) (Or.inl ⟨by rfl, ?_⟩) hHeld ?_
              · intro w hSw
                have y4 : w.cell? ⟨wb, 4, none⟩ = _ := hSw.2.1
                go_simp <;> with_reducible rfl
              try simp only [Act.put, List.setIfInBounds_toArray, List.set_cons_zero, List.set_cons_succ]
              refine takeAt 9 (some 94) ?_ rfl rfl (by kernel_rfl) (by kernel_rfl) (by kernel_rfl) (fun _ _ _ h => h) (Or.inl ⟨by rfl, ?_⟩) hHeld ?_
              rotate_left
              · intro w hSw
                go_simp <;> with_reducible rfl
              try simp only [Act.put, List.setIfInBounds_toArray, List.set_cons_zero, List.set_cons_succ]
              refine takeAt 10 (some 95) ?_ rfl rfl (by kernel_rfl) (by kernel_rfl) (by kernel_rfl) (fun _ _ _ h => h) (Or.inl ⟨by rfl, ?_⟩) hHeld ?_
              rotate_left
              · intro w hSw
                go_simp <;> with_reducible rfl
              try simp only [Act.put, List.setIfInBounds_toArray, List.set_cons_zero, List.set_cons_succ]
              refine takeAt 11 (some 96) (.bool lz) rfl rfl (by kernel_rfl) (by kernel_rfl) (by kernel_rfl) (fun _ _ _ h => h) (Or.inl ⟨by rfl, ?_⟩) hHeld ?_
              · intro w hSw
                have y8 : w.cell? ⟨m, 8, none⟩ = _ := hSw.1.at rfl
                go_simp <;> with_reducible rfl
              try simp only [Act.put, List.setIfInBounds_toArray, List.set_cons_zero, List.set_cons_succ]
              refine callAt 12 97 148 (vals := #[.pointer (some ⟨wb, 0, none⟩), .int .i64 a3, .int .i64 C, .bool lz]) (by kernel_rfl) rfl rfl rfl rfl (by simp [Act.eval]) Tryz.func148 (by kernel_rfl) (by kernel_rfl) ?_
              refine Calls.mono HC9.out ?_
              rintro e w9 ⟨rfl, H9⟩
              have HS99 : Hid (Lc 195 m (Nq.cells ⟨op, c, st, mn, mxn, lz, nn, ks⟩ (.slice (some ⟨kb, ko, none⟩) M kc)) w9 ∧ w9.cell? ⟨wb, 4, none⟩ = some (.slice ca C cc) ∧ w9.cell? ⟨lb, lo + j, none⟩ = some (.int .i64 a3)) := HPS.out w9 H9
              refine ⟨_, rfl, HS99.out, fun hHeld => ?_⟩
              try simp only [Act.put, List.setIfInBounds_toArray, List.set_cons_zero, List.set_cons_succ]
              refine wpAnyH_done (by kernel_rfl) ?_ _
              refine NoPanic.normal ?_
              have HX9 : Hid _ := HPT.out w9 H9
              go_wp2_with fail
              go_roundw
              case rel =>
                obtain ⟨⟨cv', u1⟩, u2⟩ := HX9.out
                exact ⟨j + 1, by omega, by go_num, _, cv', u1, u2, HE9.out.1, HE9.out.2⟩
              case measure => simp only [intOf]; omega
            · obtain rfl : j = Ln := by omega
              have dl : decide ((j : Int) < (j : Int)) = false := by simp
              have HRX : Hid (R = xq) := by
                have e := HQ.out.2.2.1
                rw [List.drop_eq_nil_of_le (Nat.le_of_eq HLn.out), tosE] at e
                exact e.symm
              go_wp2_with fail
              go_end0
              rw [HRX.out]
              exact ⟨rfl, _, HQ.out.1.dw, HQ.out.1.ad⟩
end
end Go.Proofs.YtalmajiflmejcaaGreat
