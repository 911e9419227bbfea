/- Texts that the proof of the law stands on: TB, TS, TG, TR, TP0, TL, TPa, TPb. -/
import Derived.Test.YtbeaoonddlfcgaaRows
import Derived.WalkKit
import Derived.ProofKit
import Derived.OpenShut
import Derived.RangeFuncNested
import Derived.RangeFuncBound
import Derived.RangeFuncCalls
import Derived.RangeFuncLeaves
import Derived.RangeFuncBox
import Derived.Shelf.Abstract
import Derived.Shelf.RegionOpen
import Derived.OwnWalkIn
import Derived.TacticsInMore
import Derived.LoopNIn
import Derived.LoopIn
import Derived.Maps.AppendAt
import Derived.Deep.AppendLies
import Derived.Laws.IdiomStrings
import Derived.Laws.EntriesVeiled
import Derived.WalkSmall
import Derived.BigQuiet
import Derived.Deep.QuietTactic
import Derived.Below
import Derived.LoopTactic
import Derived.RegionTactic
import Derived.BigRegion
import Derived.Deep.RegionLaw
import Derived.Laws.AppendOwn
import Derived.WalkLawsBesides
import Derived.Deep.Cut
import Derived.Deep.CutRange
import Derived.Laws.AppendOwnNone
/- What memory holds, and what a call leaves as it was. -/
namespace Go.Proofs.Ytbeaoonddlfcgaa
open Go.ChangeShapes Go.WideShapes Go.ChangeAt Go.RowKit Go.Shelf
set_option linter.unusedVariables false
set_option linter.unusedSimpArgs false

theorem drewN_heap (w : World) (n : Nat) : (w.drewN n).heap = w.heap := by induction n generalizing w <;> simp_all [World.drewN]
theorem drew2 (w : World) (a b : Nat) : (w.drewN a).drewN b = w.drewN (a + b) := by
  have e : ∀ (n : Nat) (w : World), w.drewN n = { w with drawn := w.drawn + n } := by
    intro n
    induction n with
    | zero => intro w; rfl
    | succ n ih => intro w; simp [World.drewN, World.drew, ih, Nat.add_assoc, Nat.add_comm 1 n]
  simp [e, Nat.add_assoc]
theorem heap_setCell {w : World} {b off : Nat} {v : Value} {cur : Array Value} {e : TypeId} {fr : Nat × Nat} (hg : w.heap[b]? = some (.cells cur e fr)) :
    (w.setCell ⟨b, off, none⟩ v).heap[b]? = some (.cells (cur.setIfInBounds off v) e fr) := by
  have hlt : b < w.heap.size := (Array.getElem?_eq_some_iff.1 hg).1
  simp [World.setCell, Array.getElem?_modify, hg]
theorem heap_setCell_other {w : World} {b off k : Nat} {v : Value} (hk : k ≠ b) : (w.setCell ⟨b, off, none⟩ v).heap[k]? = w.heap[k]? := by
  simp [World.setCell, Array.getElem?_modify, Ne.symm hk]
theorem size_setCell (w : World) (a : Addr) (v : Value) : (w.setCell a v).heap.size = w.heap.size := by simp [World.setCell]
theorem alloc_new (w : World) (ob : Obj) : (w.alloc ob).heap[w.heap.size]? = some ob := by show (w.heap.push ob)[w.heap.size]? = _; simp
theorem alloc_old (w : World) (ob : Obj) (k : Nat) (hk : k < w.heap.size) : (w.alloc ob).heap[k]? = w.heap[k]? := by
  show (w.heap.push ob)[k]? = _; rw [Array.getElem?_push_lt hk, Array.getElem?_eq_getElem hk]
theorem alloc_size (w : World) (ob : Obj) : (w.alloc ob).heap.size = w.heap.size + 1 := by show (w.heap.push ob).size = _; simp

/-- From w to w' no block that was there has turned but those of which 'S' speaks. -/
structure Fr (S : Nat → Prop) (w w' : World) : Prop where
  os : w'.os = w.os
  tape : w'.tape = w.tape
  output : w'.output = w.output
  size : w.heap.size ≤ w'.heap.size
  block : ∀ k, k < w.heap.size → ¬ S k → w'.heap[k]? = w.heap[k]?
section
variable {S S' : Nat → Prop} {w w1 w2 : World}
theorem Fr.refl (S : Nat → Prop) (w : World) : Fr S w w := ⟨rfl, rfl, rfl, Nat.le_refl _, fun _ _ _ => rfl⟩
theorem Fr.trans' (h : Fr S w w1) (h' : Fr S' w1 w2) (hs : ∀ k, k < w.heap.size → S' k → S k) : Fr S w w2 :=
  ⟨h'.os.trans h.os, h'.tape.trans h.tape, h'.output.trans h.output, Nat.le_trans h.size h'.size,
   fun k hk hn => (h'.block k (Nat.lt_of_lt_of_le hk h.size) (fun hq => hn (hs k hk hq))).trans (h.block k hk hn)⟩
theorem Fr.trans (h : Fr S w w1) (h' : Fr S w1 w2) : Fr S w w2 := h.trans' h' fun _ _ q => q
theorem Fr.mono (h : Fr S w w1) (hs : ∀ k, k < w.heap.size → S k → S' k) : Fr S' w w1 := ⟨h.os, h.tape, h.output, h.size, fun k hk hn => h.block k hk fun q => hn (hs k hk q)⟩
theorem Fr.drewN (S : Nat → Prop) (w : World) (n : Nat) : Fr S w (w.drewN n) := by
  refine ⟨?_, ?_, ?_, by rw [drewN_heap]; exact Nat.le_refl _, fun _ _ _ => by rw [drewN_heap]⟩
  all_goals (induction n generalizing w <;> simp_all [World.drewN])
theorem Fr.setCell {b off : Nat} {v : Value} (hS : S b) (w : World) : Fr S w (w.setCell ⟨b, off, none⟩ v) :=
  ⟨rfl, rfl, rfl, by rw [size_setCell]; exact Nat.le_refl _, fun k _ hn => heap_setCell_other fun e => hn (e ▸ hS)⟩
theorem Fr.alloc (S : Nat → Prop) (w : World) (ob : Obj) : Fr S w (w.alloc ob) := ⟨rfl, rfl, rfl, by rw [alloc_size]; omega, fun k hk _ => alloc_old w ob k hk⟩
theorem Fr.below {B : Nat} (h : Fr S w w1) (hB : B ≤ w.heap.size) (hS : ∀ k, k < B → ¬ S k) : Below B w w1 := ⟨h.os, h.tape, h.output, h.size, fun k hk => h.block k (by omega) (hS k hk)⟩
theorem Fr.of_below (h : Below w.heap.size w w1) : Fr S w w1 := ⟨h.os, h.tape, h.output, h.size, fun k hk _ => h.block k hk⟩
end
/-- This one block. -/
def On (b k : Nat) : Prop := k = b
theorem fr_set (b off : Nat) (v : Value) (w : World) : Fr (On b) w (w.setCell ⟨b, off, none⟩ v) := Fr.setCell (S := On b) rfl w
/-- Nothing that was there has turned. -/
abbrev Kp (w w' : World) : Prop := Below w.heap.size w w'
theorem kp_drewN (w : World) (q : Nat) : Kp w (w.drewN q) := (Fr.drewN (fun _ => False) w q).below (Nat.le_refl _) fun _ _ h => h
theorem kp_alloc (w : World) (ob : Obj) : Kp w (w.alloc ob) := (Below.refl _ w).alloc (Nat.le_refl _) ob
theorem kp_trans {a b c : World} (h : Kp a b) (k : Kp b c) : Kp a c := h.trans (k.mono h.size)

theorem Fr.new {S : Nat → Prop} {w w1 : World} {n off : Nat} {v : Value} (h : Fr S w w1) (hn : w.heap.size ≤ n) : Fr S w (w1.setCell ⟨n, off, none⟩ v) :=
  ⟨h.os, h.tape, h.output, by rw [size_setCell]; exact h.size, fun k hk hS => by rw [heap_setCell_other (by omega)]; exact h.block k hk hS⟩
theorem Fr.frAlloc {S : Nat → Prop} {w w1 : World} {ob : Obj} (h : Fr S (w.alloc ob) w1) : Fr S w w1 := (Fr.alloc S w ob).trans h
/-- A byte of a text, nought behind its end. -/
def byteAt (s : ByteArray) (k : Nat) : Nat := ((s.data.toList[k]?).map UInt8.toNat).getD 0
theorem byteAt_lt (s : ByteArray) (k : Nat) : byteAt s k < 256 := by
  unfold byteAt
  cases s.data.toList[k]? with
  | none => simp
  | some b => simpa using b.toNat_lt
theorem byteAt_eq (s : ByteArray) (k : Nat) (h : k < s.size) : byteAt s k = (s[k]).toNat := by
  have : s.data.toList[k]? = some (s[k]) := by
    rw [List.getElem?_eq_getElem (by simpa using h)]; rfl
  unfold byteAt; rw [this]; rfl

theorem cell_at {w : World} {b : Nat} {e : TypeId} {cur : Array Value} {fr : Nat × Nat} (hg : w.heap[b]? = some (.cells cur e fr)) (j : Nat) : w.cell? ⟨b, j, none⟩ = cur[j]? := by simp [World.cell?, hg]
theorem kp_cell {w w1 : World} (k : Kp w w1) {a : Addr} {u : Value} (h : w.cell? a = some u) : w1.cell? a = some u := by
  rw [World.cell?_of_block (k.block _ ?_)]
  · exact h
  · rcases Nat.lt_or_ge a.block w.heap.size with q | q
    · exact q
    · simp [World.cell?, Array.getElem?_eq_none q] at h
theorem kp_put {w W : World} (h : Kp w W) {D : Nat} {o : Obj} (hD : w.heap.size ≤ D) : Kp w (W.putObj D o) :=
  ⟨h.os, h.tape, h.output, by have := h.size; simpa using this, fun k hk => (World.putObj_heap_other (by omega)).trans (h.block k hk)⟩
theorem addr_add (g j : Nat) : (⟨g, 0, none⟩ : Addr).add j = ⟨g, j, none⟩ := by unfold Addr.add; split <;> simp_all
theorem kp_drew_size (w : World) : w.drew.heap.size = w.heap.size := rfl
theorem kp_drew (w : World) : Kp w w.drew := kp_drewN w 1
section
variable {w w1 : World} {B : Nat} {v : Value}
theorem row_kp {e : TypeId} {size n : Nat} {xs : List Value} (hr : w.ownsRow B e size v n xs) (h : Kp w w1) : w1.ownsRow B e size v n xs := by
  refine ⟨hr.1, ?_⟩
  rcases hr.2 with q | ⟨b, cap, cur, rfl, hb, hg, rest⟩
  · exact .inl q
  · exact .inr ⟨b, cap, cur, rfl, hb, by rw [h.block b (hr.lt b rfl).2]; exact hg, rest⟩
theorem row_fr {e : TypeId} {size n : Nat} {xs : List Value} {S : Nat → Prop} (hr : w.ownsRow B e size v n xs) (h : Fr S w w1) (hn : ∀ j, v.ownBlock = some j → ¬ S j) : w1.ownsRow B e size v n xs := by
  refine ⟨hr.1, ?_⟩
  rcases hr.2 with q | ⟨b, cap, cur, rfl, hb, hg, rest⟩
  · exact .inl q
  · exact .inr ⟨b, cap, cur, rfl, hb, by rw [h.block b (hr.lt b rfl).2 (hn b rfl)]; exact hg, rest⟩
theorem row_lift {e : TypeId} {B' size n : Nat} {xs : List Value} (hr : w.ownsRow B e size v n xs) (h : ∀ j, v.ownBlock = some j → B' ≤ j) : w.ownsRow B' e size v n xs := by
  refine ⟨hr.1, ?_⟩
  rcases hr.2 with q | ⟨b, cap, cur, rfl, hb, hg, rest⟩
  · exact .inl q
  · exact .inr ⟨b, cap, cur, rfl, h b rfl, hg, rest⟩
theorem owns_form {size n : Nat} {e : TypeId} {xs : List Value} (h : w.ownsRow B e size v n xs) : ∃ a cap, v = .slice a n cap ∧ n ≤ cap ∧ cap ≤ maxLen := by
  rcases h.2 with ⟨rfl, rfl⟩ | ⟨b, cap, cur, rfl, _, _, h1, h2, _⟩
  · exact ⟨none, 0, rfl, Nat.le_refl _, by simp [maxLen]⟩
  · exact ⟨_, cap, rfl, h1, h2⟩
theorem bx_fr {b : Nat} {t : TypeId} {u : Value} {S : Nat → Prop} (h : Boxed w b t u) (f : Fr S w w1) (hn : ¬ S b) : Boxed w1 b t u := by unfold Boxed at *; rw [f.block b (Array.getElem?_eq_some_iff.1 h).1 hn]; exact h
theorem bx_kp {b : Nat} {t : TypeId} {u : Value} (h : Boxed w b t u) (k : Kp w w1) : Boxed w1 b t u := by unfold Boxed at *; rw [k.block b (Array.getElem?_eq_some_iff.1 h).1]; exact h
end
theorem info_parts {t : TypeId} {z : Option Value} {a b : Nat} (h : (Try.prog.info? t).map (fun i => (i.zero, i.size, i.bytes)) = some (z, a, b)) : ∃ i, Try.prog.info? t = some i ∧ i.zero = z ∧ i.size = a ∧ i.bytes = b := by
  obtain ⟨i, h1, h2⟩ := Option.map_eq_some_iff.1 h
  simp only [Prod.mk.injEq] at h2
  exact ⟨i, h1, h2.1, h2.2.1, h2.2.2⟩
theorem infoUB : (Try.prog.info? 5).map (fun i => (i.zero, i.size, i.bytes)) = some (some (.int .u8 0), 1, 1) := by kernel_rfl
/-- What lay below 'n' and one block are as they were. -/
def Kpb (n b : Nat) (W W' : World) : Prop := W.heap.size ≤ W'.heap.size ∧ ∀ k, k < W.heap.size → (k < n ∨ k = b) → W'.heap[k]? = W.heap[k]?
theorem Kpb.trans {n b : Nat} {A B C : World} (h : Kpb n b A B) (k : Kpb n b B C) : Kpb n b A C := ⟨Nat.le_trans h.1 k.1, fun j hj hq => (k.2 j (Nat.lt_of_lt_of_le hj h.1) hq).trans (h.2 j hj hq)⟩
theorem Kpb.refl (n b : Nat) (A : World) : Kpb n b A A := ⟨Nat.le_refl _, fun _ _ _ => rfl⟩
theorem Kpb.put {n b l : Nat} {W : World} {o : Obj} (hn : n ≤ l) (hb : b < l) : Kpb n b W (W.putObj l o) :=
  ⟨by simp, fun k _ hq => World.putObj_heap_other (by omega)⟩
theorem Kpb.cell {n b : Nat} {W W' : World} (h : Kpb n b W W') {p : Addr} {u : Value} (hc : W.cell? p = some u) (hp : p.block < n ∨ p.block = b) : W'.cell? p = some u := by
  rw [World.cell?_of_block (h.2 _ ?_ hp)]
  · exact hc
  · rcases Nat.lt_or_ge p.block W.heap.size with q | q
    · exact q
    · simp [World.cell?, Array.getElem?_eq_none q] at hc
theorem Kpb.of_fr {n b : Nat} {S : Nat → Prop} {W W' : World} (f : Fr S W W') (h : ∀ k, S k → n ≤ k ∧ k ≠ b) : Kpb n b W W' :=
  ⟨f.size, fun k hk hq => f.block k hk fun q => by have := h k q; omega⟩
theorem keepsFrom_of_fr {S : Nat → Prop} {W W' : World} (B : Nat) (f : Fr S W W') (hS : ∀ j, S j → ∃ c e g, W.heap[j]? = some (.cells c e g)) : KeepsFrom B W W' :=
  ⟨f.size, fun k o _ hk ho => (f.block k (Array.getElem?_eq_some_iff.1 hk).1 fun q => by
    obtain ⟨c, e, g, hc⟩ := hS k q
    rw [hc] at hk
    injection hk with hk
    rw [← hk] at ho; cases ho).trans hk⟩
theorem wpListIn_append_lies {F : Fence} {n : Nat} {P : Program} (w : World) {ops : Array Oper} {rest : List Oper} {o : Oper} {a : Act} {Q : Exit → Act → World → Prop}
    (hg : o.guard = none) (s x : Operand) (t : TypeId) (hop : o.op = Op.call { callee := Callee.builtin Builtin.append, args := #[s, x], argTypes := #[t, t] })
    (base : Nat) (e : TypeId) (i : TypeInfo) (z : Value) (size bytes : Nat) (h1 : P.underlying t = some (.slice e)) (h2 : P.info? e = some i) (h3 : i.zero = some z) (h4 : i.size = size) (h5 : i.bytes = bytes) (h6 : z.cells.size = size) (h7 : 0 < size)
    (v : Value) (k : Nat) (xs : List Value) (hs : a.eval s = v) (hown : w.ownsRow base e size v k xs) (ad : Addr) (m c : Nat) (news : List Value) (hx : a.eval x = .slice (some ad) m c) (hn : news.length = m * size)
    (hc : ∀ j u, news[j]? = some u → w.cell? (ad.add j) = some u) (h1c : ∀ u ∈ news, u.oneCell' = true) (hm : 0 < m) (b1 : k + m ≤ maxLen) (b2 : (k + m) * bytes ≤ 140737488355328) (b3 : base ≤ w.heap.size) (H : Nat) (hH : w.heap.size = H)
    (hK : ∀ g cap w', w'.ownsRow base e size (.slice (some ⟨g, 0, none⟩) (k + m) cap) (k + m) (xs ++ news) → w.grownBy w' v.ownBlock → (v.ownBlock = some g ∨ g = H) → g < w'.heap.size → wpListIn F n P ops Q rest (a.put o.dst (.slice (some ⟨g, 0, none⟩) (k + m) cap)) w') :
    wpListIn F n P ops Q (o :: rest) a w := by
  refine wpListIn_plain hg fun K hK' => ?_
  obtain ⟨g, cap, w', hrun, r1, r2, r3, r4⟩ := run_append_lies (P := P) w t o.type base e i z size bytes h1 h2 h3 h4 h5 h6 h7 v k xs hown ad m c news hn hc h1c hm b1 b2 b3 H hH
  unfold Oper.wpIn
  refine ⟨?_, ?_⟩
  · simp [Oper.about, hop, resolve, Target.leads, Sem.run_pure]
  · rw [Oper.semAt_plain F _ _ (by rw [hop]; intro c hc'; cases hc')]
    simp [execOp, hop, resolve, invoke, builtin, hs, hx, hrun, Result.andThen]
    exact hK' _ _ (hK g cap w' r1 r2 r3 r4)
end Go.Proofs.Ytbeaoonddlfcgaa
/- The signs of a replacement, one by one: what comes, in which order. -/
namespace Go.Proofs.Ytbeaoonddlfcgaa
open Go.ChangeShapes Go.WideShapes Go.ChangeAt Go.RowKit Go.Shelf
set_option linter.unusedVariables false
set_option linter.unusedSimpArgs false
attribute [local go_sem] Oper.semAt_some
/-- The signs of a text: a byte, and whether a backslash ahead belongs to it. -/
def sgns : List UInt8 → List (UInt8 × Bool)
  | [] => []
  | [c] => [(c, false)]
  | c :: d :: t => if c = 92 then (d, true) :: sgns t else (c, false) :: sgns (d :: t)
theorem sgns_esc (d : UInt8) (t : List UInt8) : sgns (92 :: d :: t) = (d, true) :: sgns t := by simp [sgns]
theorem sgns_one {c : UInt8} {t : List UInt8} (h : c ≠ 92 ∨ t = []) : sgns (c :: t) = (c, false) :: sgns t := by
  cases t with
  | nil => simp [sgns]
  | cons d t =>
    rcases h with h | h
    · simp [sgns, h]
    · cases h
theorem sgns_len (l : List UInt8) : (sgns l).length ≤ l.length := by
  fun_induction sgns l with
  | case1 => simp
  | case2 => simp
  | case3 d t ih => simp only [List.length_cons]; omega
  | case4 c d t h ih => simp only [List.length_cons] at *; omega
theorem signs_any (S : ByteArray) (w : World) : Calls Try.prog 16 #[.string S] w fun e w' => e = .returned (.func (.func 22) #[] #[.pointer (some ⟨w.heap.size, 0, none⟩)]) ∧ w' = w.alloc (.cells #[.string S] 9) := by
  have hmf : ∀ (fn : Fn) (first cap : Array Value) (w : World), (Instr.makeFunc fn first cap).run Try.prog w = .ok (.func fn first cap) w := fun _ _ _ _ => rfl
  go_enter Try.func16, Try.ntmps16
  go_wp2
  go_ret
  exact ⟨rfl, rfl⟩
def encS (p : UInt8 × Bool) : Array Value := #[.int .u8 p.1.toNat, .bool p.2]
theorem drop_at {S : ByteArray} {i : Nat} (h : i < S.size) : S.data.toList.drop i = S[i] :: S.data.toList.drop (i + 1) := by
  rw [List.drop_eq_getElem_cons (by simpa using h)]
  rfl
set_option maxRecDepth 100000 in
set_option maxHeartbeats 2000000 in
theorem signs1_in (F : Fence) (n : Nat) (hF : F.fn 22) (hro : F.round = none) (hn : 1 ≤ n) (l Bs n₀ : Nat) (S : ByteArray) (hlen : S.size ≤ 8000000) (J Jx : List (UInt8 × Bool) → World → Prop)
    (hY : ∀ pre x W, J pre W → pre.length < (sgns S.data.toList).length → YieldAt F (n - 1) Try.prog l #[.int .u8 x.1.toNat, .bool x.2] W fun e W' =>
      (e = .returned (.bool true) ∧ J (pre ++ [x]) W' ∧ Kpb n₀ Bs W W') ∨ (e = .returned (.bool false) ∧ Jx (pre ++ [x]) W'))
    (W : World) (hBs : W.cell? ⟨Bs, 0, none⟩ = some (.string S)) (h0 : J [] W) :
    CallsIn F n Try.prog 22 #[.func (.yield l) #[] #[], .pointer (some ⟨Bs, 0, none⟩)] W fun e W' => (∃ v, e = .returned v) ∧
      ((∃ ys, ys = sgns S.data.toList ∧ J ys W') ∨ (∃ pre, True ∧ Jx pre W')) := by
  obtain ⟨N, hN⟩ : ∃ N, S.size = N := ⟨_, rfl⟩
  refine callsIn_of_wp Try.func22 rfl hF ?_ hro
  simp only [Try.ntmps22, List.size_toArray, List.length_cons, List.length_nil, Nat.reduceAdd, Nat.reduceSub, Array.replicate_succ, Array.replicate_zero, List.push_toArray, List.append_toArray, List.nil_append, List.cons_append]
  have HB : Hid (W.cell? ⟨Bs, 0, none⟩ = some (.string S)) := hBs
  have HY : Hid _ := hY
  rw [hN] at hlen
  clear hY
  gi_wp2
  gi_loopw [3] (fun i wr => ∃ (k : Nat) (pre : List (UInt8 × Bool)), k ≤ N ∧ i = .int .i64 k ∧ Hid (J pre wr ∧ sgns S.data.toList = pre ++ sgns (S.data.toList.drop k) ∧ Kpb n₀ Bs W wr))
    (fun i _ => N - (intOf i).toNat)
  case atStart => exact ⟨0, [], Nat.zero_le _, rfl, h0, by simp, Kpb.refl _ _ _⟩
  case round =>
    obtain ⟨k, pre, hk, rfl, HJ⟩ := hrel
    clear hBs h0
    have hBs : wr.cell? ⟨Bs, 0, none⟩ = some (.string S) := HJ.out.2.2.cell HB.out (.inr rfl)
    by_cases hlt : k < N
    · have hkS : k < S.size := by rw [hN]; exact hlt
      have d0 : decide ((k : Int) < (N : Int)) = true := decide_eq_true (by omega)
      have hdr := drop_at hkS
      obtain ⟨c, hc⟩ : ∃ c, S[k]'hkS = c := ⟨_, rfl⟩
      rw [hc] at hdr
      have hc256 : c.toNat < 256 := c.toNat_lt
      by_cases hesc : c = 92 ∧ k + 1 < N
      · obtain ⟨rfl, hk1⟩ := hesc
        have hk1S : k + 1 < S.size := by rw [hN]; exact hk1
        have hdr1 := drop_at hk1S
        obtain ⟨d, hd⟩ : ∃ d, S[k + 1]'hk1S = d := ⟨_, rfl⟩
        rw [hd] at hdr1
        have hT : sgns S.data.toList = (pre ++ [(d, true)]) ++ sgns (S.data.toList.drop (k + 1 + 1)) := by rw [HJ.out.2.1, hdr, hdr1, sgns_esc]; simp
        have HT : Hid _ := hT
        obtain ⟨fn, tmps, assign, body, hy, hR⟩ := HY.out pre (d, true) wr HJ.out.1 (by rw [hT]; simp)
        dsimp only at hy
        clear hT hdr hdr1
        have d1 : decide ((k : Int) + 1 < (N : Int)) = true := decide_eq_true (by omega)
        have hc' : (S[k]'hkS).toNat = 92 := by rw [hc]; rfl
        have hkS' : ((k : Int) + 1).toNat = k + 1 := by omega
        gi_wp2
        refine hR.mono ?_
        rintro e W3 (⟨rfl, hJ3, hk3⟩ | ⟨rfl, hJx3⟩)
        · gi_wp2
          go_roundw
          case rel => exact ⟨k + 1 + 1, _, by omega, by go_num, hJ3, HT.out, HJ.out.2.2.trans hk3⟩
          case measure => simp only [intOf]; omega
        · gi_wp2
          refine bodyPost_ret (results_none rfl _ _ _) rfl ?_
          exact ⟨⟨_, rfl⟩, .inr ⟨_, trivial, hJx3⟩⟩
      · have hT : sgns S.data.toList = (pre ++ [(c, false)]) ++ sgns (S.data.toList.drop (k + 1)) := by
          rw [HJ.out.2.1, hdr, sgns_one]
          · simp
          · by_cases h9 : c = 92
            · exact .inr (List.drop_eq_nil_of_le (by have : S.data.toList.length = N := by rw [← hN]; simp
                                                     rw [this]
                                                     have : ¬ (k + 1 < N) := fun h => hesc ⟨h9, h⟩
                                                     omega))
            · exact .inl h9
        have HT : Hid _ := hT
        obtain ⟨fn, tmps, assign, body, hy, hR⟩ := HY.out pre (c, false) wr HJ.out.1 (by rw [hT]; simp)
        dsimp only at hy
        clear hT hdr
        by_cases h9 : c = 92
        · subst h9
          have hc' : (S[k]'hkS).toNat = 92 := by rw [hc]; rfl
          rw [show (((92 : UInt8).toNat : Nat) : Int) = 92 from rfl] at hy
          have d1 : decide ((k : Int) + 1 < (N : Int)) = false := decide_eq_false (by have : ¬ (k + 1 < N) := fun h => hesc ⟨rfl, h⟩
                                                                                      omega)
          clear hesc
          gi_wp2
          refine hR.mono ?_
          rintro e W3 (⟨rfl, hJ3, hk3⟩ | ⟨rfl, hJx3⟩)
          · gi_wp2
            go_roundw
            case rel => exact ⟨k + 1, _, by omega, by go_num, hJ3, HT.out, HJ.out.2.2.trans hk3⟩
            case measure => simp only [intOf]; omega
          · gi_wp2
            refine bodyPost_ret (results_none rfl _ _ _) rfl ?_
            exact ⟨⟨_, rfl⟩, .inr ⟨_, trivial, hJx3⟩⟩
        · have h9' : c.toNat ≠ 92 := fun h => h9 (UInt8.toNat_inj.1 h)
          have e9 : ((c.toNat : Int) == 92) = false := by simp; omega
          clear hesc h9
          gi_wp2
          refine hR.mono ?_
          rintro e W3 (⟨rfl, hJ3, hk3⟩ | ⟨rfl, hJx3⟩)
          · gi_wp2
            go_roundw
            case rel => exact ⟨k + 1, _, by omega, by go_num, hJ3, HT.out, HJ.out.2.2.trans hk3⟩
            case measure => simp only [intOf]; omega
          · gi_wp2
            refine bodyPost_ret (results_none rfl _ _ _) rfl ?_
            exact ⟨⟨_, rfl⟩, .inr ⟨_, trivial, hJx3⟩⟩
    · obtain rfl : k = N := by omega
      have d0 : decide ((k : Int) < (k : Int)) = false := by simp
      gi_wp2
      go_end0
      refine ⟨⟨_, rfl⟩, .inl ⟨_, ?_, HJ.out.1⟩⟩
      rw [HJ.out.2.1, List.drop_eq_nil_of_le (by rw [← hN]; exact Nat.le_of_eq (by simp))]
      simp [sgns]
theorem signs_seq (F : Fence) (n : Nat) (hF : F.fn 22) (hro : F.round = none) (hn : 1 ≤ n) (Bs n₀ : Nat) (S : ByteArray) (hlen : S.size ≤ 8000000) {W3 : World} (hB : Boxed W3 Bs 9 (.string S)) :
    SeqStopsK F n Try.prog 22 #[.pointer (some ⟨Bs, 0, none⟩)] (fun p : UInt8 × Bool => #[.int .u8 p.1.toNat, .bool p.2]) (Kpb n₀ Bs) (fun xs => xs = sgns S.data.toList) (fun _ => True) (sgns S.data.toList).length W3 := by
  intro l J Jx W hW _ _ hY h0
  exact signs1_in F n hF hro hn l Bs n₀ S hlen J Jx hY W (kp_cell hW hB.cell) h0
end Go.Proofs.Ytbeaoonddlfcgaa
/- A text under way, and what gathers its bytes. -/
namespace Go.Proofs.Ytbeaoonddlfcgaa
open Go.ChangeShapes Go.WideShapes Go.ChangeAt Go.RowKit Go.Shelf
set_option linter.unusedVariables false
set_option linter.unusedSimpArgs false
/-- Bytes as they lie in memory. -/
def bcs (l : List UInt8) : List Value := l.map fun b => Value.int .u8 b.toNat
theorem bcs_len (l : List UInt8) : (bcs l).length = l.length := by simp [bcs]
theorem bcs_append (a b : List UInt8) : bcs (a ++ b) = bcs a ++ bcs b := by simp [bcs]
theorem bcs_one (l : List UInt8) : ∀ u ∈ bcs l, u.oneCell' = true := fun u hu => by
  obtain ⟨b, _, rfl⟩ := List.mem_map.1 hu
  rfl
/-- In box 'b' lies a list of bytes. -/
structure Tx (n0 b : Nat) (xs : List UInt8) (v : Value) (W : World) : Prop where
  box : Boxed W b 25 v
  row : W.ownsRow n0 5 1 v xs.length (bcs xs)
  ge : n0 ≤ b
def TxS (b : Nat) (v : Value) (k : Nat) : Prop := k = b ∨ v.ownBlock = some k
section
variable {n0 b : Nat} {xs : List UInt8} {v : Value} {W W1 : World}
theorem Tx.kp (h : Tx n0 b xs v W) (k : Kp W W1) : Tx n0 b xs v W1 := ⟨bx_kp h.box k, row_kp h.row k, h.ge⟩
theorem Tx.cells (h : Tx n0 b xs v W) : ∀ k, TxS b v k → ∃ c e g, W.heap[k]? = some (.cells c e g) := fun k hk => by
  rcases hk with rfl | hk
  · exact ⟨_, _, _, h.box⟩
  · rcases h.row.2 with ⟨q, _⟩ | ⟨g, cap, cur, rfl, _, hg, _⟩
    · rw [q] at hk; cases hk
    · simp only [Value.ownBlock, Option.some.injEq] at hk
      exact ⟨_, _, _, hk ▸ hg⟩
theorem Tx.from (h : Tx n0 b xs v W) : ∀ k, TxS b v k → n0 ≤ k := fun k hk => by
  rcases hk with rfl | hk
  · exact h.ge
  · exact (h.row.lt k hk).1
/-- Another box is not touched. -/
theorem Tx.off (h : Tx n0 b xs v W) {b' : Nat} {t : TypeId} {u : Value} (hb : Boxed W b' t u) (hn : b' ≠ b) (ht : t ≠ 5) : ¬ TxS b v b' := fun q => by
  rcases q with q | q
  · exact hn q
  · exact hb.not_row ht h.row q.symm
theorem Tx.fr {S : Nat → Prop} (h : Tx n0 b xs v W) (f : Fr S W W1) (hn : ∀ k, S k → ¬ TxS b v k) : Tx n0 b xs v W1 :=
  ⟨bx_fr h.box f fun q => hn _ q (Or.inl rfl), row_fr h.row f fun j hj q => hn _ q (Or.inr hj), h.ge⟩
theorem Tx.nil (n0 : Nat) (W : World) (hn : n0 ≤ W.heap.size) : Tx n0 W.heap.size [] (.slice none 0 0) (W.alloc (.cells #[.slice none 0 0] 25)) :=
  ⟨Boxed.new W _ _, World.ownsRow_nil _ _ _ _, hn⟩
/-- Behind an append and the store of what it gives. -/
theorem Tx.more (h : Tx n0 b xs v W) {w0 w1 : World} {v' : Value} {news : List UInt8} (k : Kp W w0) (ho : w1.ownsRow n0 5 1 v' (xs.length + news.length) (bcs xs ++ bcs news)) (hg : w0.grownBy w1 v.ownBlock) :
    (w1.cell? ⟨b, 0, none⟩ = some v ∧ w1.frozen? ⟨b, 0, none⟩ = false) ∧ Tx n0 b (xs ++ news) v' (w1.setCell ⟨b, 0, none⟩ v') ∧ Fr (TxS b v) W (w1.setCell ⟨b, 0, none⟩ v') := by
  have hb0 := bx_kp h.box k
  have hr0 := row_kp h.row k
  have hb1 : Boxed w1 b 25 v := hb0.kept hg (hb0.not_row (by decide) hr0)
  have f1 : Fr (TxS b v) W w1 := ⟨hg.os.trans k.os, hg.tape.trans k.tape, hg.output.trans k.output, Nat.le_trans k.size hg.size, fun j hj q => by
    rw [hg.block j (Nat.lt_of_lt_of_le hj k.size) fun e => q (Or.inr e.symm)]; exact k.block j hj⟩
  refine ⟨⟨hb1.cell, hb1.frozen⟩, ⟨hb1.set v', ?_, h.ge⟩, f1.trans (Fr.setCell (Or.inl rfl) w1)⟩
  rw [List.length_append, bcs_append]
  exact row_fr ho (fr_set b 0 v' w1) fun j hj q => by
    unfold On at q
    subst q
    exact hb1.not_row (by decide) ho hj.symm
theorem Tx.str (h : Tx n0 b xs v W) : (convert 25 9 v).run Try.prog W = .ok (.string ⟨xs.toArray⟩) W := by
  rcases h.row.2 with ⟨rfl, q⟩ | ⟨g, cap, cur, rfl, _, hg, h1, h2, h3, h4⟩
  · have : xs = [] := List.eq_nil_of_length_eq_zero q
    subst this
    rw [run_convert_bytes_string W 25 9 5 none 0 0 Try.underlying25 Try.underlying5 Try.underlying9]
    simp [Conv.bytesToString]
    rfl
  · refine run_convert_bytes_back W 25 9 5 ⟨g, 0, none⟩ cap xs Try.underlying25 Try.underlying5 Try.underlying9 fun j hj => ?_
    rw [addr_add, cell_at hg]
    have : (bcs xs)[j]? = some (.int .u8 (xs[j].toNat : Int)) := by simp [bcs, hj]
    rw [← h4, List.getElem?_take] at this
    split at this
    · simpa using this
    · cases this
end
section
variable {n0 b : Nat} {xs : List UInt8} {v : Value} {w : World}
set_option maxHeartbeats 2000000 in
theorem gatherR_any (h : Tx n0 b xs v w) (hn : n0 ≤ w.heap.size) (ad : Addr) (m c : Nat) (news : List UInt8) (hm : news.length = m) (hc : ∀ j u, (bcs news)[j]? = some u → w.cell? (ad.add j) = some u) (hb : xs.length + m ≤ 8000000) :
    Calls Try.prog 21 #[.slice (some ad) m c, .pointer (some ⟨b, 0, none⟩)] w fun e w' => e = .returned (.tuple #[]) ∧ ∃ v', Tx n0 b (xs ++ news) v' w' ∧ Fr (TxS b v) w w' := by
  obtain ⟨i9, hi9, z0, z1, z2⟩ := info_parts infoUB
  have c0 := h.box.cell
  obtain ⟨va, vc, rfl, v1, v2⟩ := owns_form h.row
  have HT : Hid (Tx n0 b xs (.slice va xs.length vc) w) := h
  obtain ⟨K, hK⟩ : ∃ K, xs.length = K := ⟨_, rfl⟩
  have HM : Hid (∀ w1 v', w1.ownsRow n0 5 1 v' (K + m) (bcs xs ++ bcs news) → w.grownBy w1 (Value.slice va xs.length vc).ownBlock → (w1.cell? ⟨b, 0, none⟩ = some (Value.slice va xs.length vc) ∧ w1.frozen? ⟨b, 0, none⟩ = false) ∧ Hid (Tx n0 b (xs ++ news) v' (w1.setCell ⟨b, 0, none⟩ v') ∧ Fr (TxS b (Value.slice va xs.length vc)) w (w1.setCell ⟨b, 0, none⟩ v'))) := by
    intro w1 v' q1 q2
    rw [← hK, ← hm] at q1
    exact h.more (Below.refl _ _) q1 q2
  have HR : Hid (w.ownsRow n0 5 1 (.slice va K vc) K (bcs xs)) := by rw [← hK]; exact h.row
  have HC : Hid (∀ j u, (bcs news)[j]? = some u → w.cell? (ad.add j) = some u) := hc
  have HL : Hid ((bcs news).length = m * 1) := by rw [bcs_len, Nat.mul_one]; exact hm
  rw [hK] at c0 hb HM ⊢
  clear h hc hm hK v1 v2 HT
  go_enter Try.func21, Try.ntmps21
  go_wp2_with (at_builtin; refine wpList_append_own _ rfl (.tmp 3) (.tmp 4) 25 rfl n0 5 i9 _ 1 1 Try.underlying25 hi9 z0 z1 z2 rfl (by decide) (.slice va K vc) K (bcs xs) rfl HR.out ad m c (bcs news) rfl HL.out HC.out (bcs_one _) (by unfold maxLen; omega) (by omega) hn ?_; intro v' w1 q1 q2 q3; clear q3; obtain ⟨⟨c1, f1⟩, HP⟩ := HM.out w1 v' q1 q2; obtain ⟨a', c', rfl, q4, q5⟩ := owns_form q1; clear q1 q2 q4 q5)
  go_end0
  exact ⟨rfl, _, HP.out⟩
set_option maxHeartbeats 2000000 in
theorem gatherP_any (h : Tx n0 b xs v w) (hn : n0 ≤ w.heap.size) (c : UInt8) (hb : xs.length + 1 ≤ 8000000) :
    Calls Try.prog 14 #[.int .u8 c.toNat, .pointer (some ⟨b, 0, none⟩)] w fun e w' => e = .returned (.tuple #[]) ∧ ∃ v', Tx n0 b (xs ++ [c]) v' w' ∧ Fr (TxS b v) w w' := by
  obtain ⟨i9, hi9, z0, z1, z2⟩ := info_parts infoUB
  have c0 := h.box.cell
  obtain ⟨va, vc, rfl, v1, v2⟩ := owns_form h.row
  obtain ⟨K, hK⟩ : ∃ K, xs.length = K := ⟨_, rfl⟩
  have HM : Hid (∀ w1 v', w1.ownsRow n0 5 1 v' (K + 1) (bcs xs ++ [.int .u8 c.toNat]) → (w.alloc (.cells #[.int .u8 c.toNat] 5)).grownBy w1 (Value.slice va xs.length vc).ownBlock → (w1.cell? ⟨b, 0, none⟩ = some (Value.slice va xs.length vc) ∧ w1.frozen? ⟨b, 0, none⟩ = false) ∧ Hid (Tx n0 b (xs ++ [c]) v' (w1.setCell ⟨b, 0, none⟩ v') ∧ Fr (TxS b (Value.slice va xs.length vc)) w (w1.setCell ⟨b, 0, none⟩ v'))) := by
    intro w1 v' q1 q2
    rw [← hK] at q1
    exact h.more (news := [c]) (kp_alloc _ _) q1 q2
  have HR : Hid ((w.alloc (.cells #[.int .u8 c.toNat] 5)).ownsRow n0 5 1 (.slice va K vc) K (bcs xs)) := by rw [← hK]; exact row_kp h.row (kp_alloc _ _)
  have HN : Hid (n0 ≤ (w.alloc (.cells #[.int .u8 c.toNat] 5)).heap.size) := by
    have := alloc_size w (.cells #[.int .u8 c.toNat] 5)
    exact Nat.le_trans hn (by omega)
  rw [hK] at c0 hb HM ⊢
  clear h hK v1 v2
  go_enter Try.func14, Try.ntmps14
  go_wp2_with (at_builtin; refine wpList_append_own _ rfl (.tmp 3) (.tmp 5) 25 rfl n0 5 i9 _ 1 1 Try.underlying25 hi9 z0 z1 z2 rfl (by decide) (.slice va K vc) K (bcs xs) rfl HR.out ⟨w.heap.size, 0, none⟩ 1 1 [.int .u8 c.toNat] rfl rfl (cell_one_new _ _ _) (by simp [Value.oneCell']) (by unfold maxLen; omega) (by omega) HN.out ?_; intro v' w1 q1 q2 q3; clear q3; obtain ⟨⟨c1, f1⟩, HP⟩ := HM.out w1 v' q1 q2; obtain ⟨a', c', rfl, q4, q5⟩ := owns_form q1; clear q1 q2 q4 q5)
  go_end0
  exact ⟨rfl, _, HP.out⟩
end
end Go.Proofs.Ytbeaoonddlfcgaa
/- Resolve. -/
namespace Go.Proofs.Ytbeaoonddlfcgaa
open Go.ChangeShapes Go.WideShapes Go.ChangeAt Go.RowKit Go.Shelf
set_option linter.unusedVariables false
set_option linter.unusedSimpArgs false
attribute [local go_sem] Oper.semAt_some
/-- What one sign comes to. -/
def resOne (last : List UInt8) (p : UInt8 × Bool) : List UInt8 := if p.1 = 126 then (if p.2 then [126] else last) else if p.2 then [92, p.1] else [p.1]
def resL (last : List UInt8) (l : List (UInt8 × Bool)) : List UInt8 := l.flatMap (resOne last)
def resF (s last : List UInt8) : List UInt8 := resL last (sgns s)
theorem resL_snoc (last : List UInt8) (l : List (UInt8 × Bool)) (p : UInt8 × Bool) : resL last (l ++ [p]) = resL last l ++ resOne last p := by simp [resL]
theorem resOne_len (last : List UInt8) (p : UInt8 × Bool) : (resOne last p).length ≤ last.length + 2 := by
  unfold resOne
  split
  · split <;> simp
  · split <;> simp
theorem resL_len (last : List UInt8) (l : List (UInt8 × Bool)) : (resL last l).length ≤ l.length * (last.length + 2) := by
  induction l with
  | nil => simp [resL]
  | cons p l ih =>
    have := resOne_len last p
    simp only [resL, List.flatMap_cons, List.length_append, List.length_cons, Nat.add_mul] at *
    omega
/-- Resolve's memory. -/
structure Rs (w : World) (bT bG bW bS : Nat) (wv : Value) (S last : ByteArray) (xs : List UInt8) (v : Value) (W : World) : Prop where
  tx : Tx w.heap.size bT xs v W
  ga : Boxed W bG 43 (.func (.func 21) #[] #[.pointer (some ⟨bT, 0, none⟩)])
  wa : Boxed W bW 25 wv
  wr : ∃ (g cap : Nat) (cur : Array Value) (a b : Nat), wv = .slice (some ⟨g, 0, none⟩) last.size cap ∧ W.heap[g]? = some (.cells cur 5 (a, b + 1)) ∧ ∀ (j : Nat) (u : Value), (bcs last.data.toList)[j]? = some u → cur[j]? = some u
  sb : Boxed W bS 9 (.string S)
  ne : bT ≠ bW
  kp : Kp w W
theorem Rs.more {w : World} {bT bG bW bS : Nat} {wv : Value} {S last : ByteArray} {xs ys : List UInt8} {v v' : Value} {W W1 : World} (h : Rs w bT bG bW bS wv S last xs v W) (ht : Tx w.heap.size bT ys v' W1) (f : Fr (TxS bT v) W W1) : Rs w bT bG bW bS wv S last ys v' W1 := by
  refine ⟨ht, bx_fr h.ga f (h.tx.off h.ga (fun e => ?_) (by decide)), bx_fr h.wa f (h.tx.off h.wa (Ne.symm h.ne) (by decide)), ?_, bx_fr h.sb f (h.tx.off h.sb (fun e => ?_) (by decide)), h.ne, h.kp.trans (f.below h.kp.size fun k hk q => ?_)⟩
  · have h1 := h.ga; have h2 := h.tx.box
    unfold Boxed at h1 h2
    rw [e, h2] at h1; simp at h1
  · obtain ⟨g, cap, cur, a, b, e1, e2, e3⟩ := h.wr
    refine ⟨g, cap, cur, a, b, e1, ?_, e3⟩
    rw [f.block g (Array.getElem?_eq_some_iff.1 e2).1 fun q => ?_]
    · exact e2
    · rcases q with rfl | q
      · have := h.tx.box
        unfold Boxed at this
        rw [e2] at this; simp at this
      · rcases h.tx.row.2 with ⟨e, _⟩ | ⟨g', cap', cur', rfl, _, hg, _⟩
        · rw [e] at q; cases q
        · simp only [Value.ownBlock, Option.some.injEq] at q
          rw [q, e2] at hg; simp at hg
  · have h1 := h.sb; have h2 := h.tx.box
    unfold Boxed at h1 h2
    rw [e, h2] at h1; simp at h1
  · have := h.tx.from k q; omega
theorem Rs.fr {w : World} {bT bG bW bS : Nat} {wv : Value} {S last : ByteArray} {xs : List UInt8} {v : Value} {W W1 : World} {Z : Nat → Prop} (h : Rs w bT bG bW bS wv S last xs v W) (f : Fr Z W W1) (hZ : ∀ k, Z k → w.heap.size ≤ k ∧ ∀ c e g, W.heap[k]? ≠ some (.cells c e g)) : Rs w bT bG bW bS wv S last xs v W1 := by
  refine ⟨h.tx.fr f fun k hk q => ?_, bx_fr h.ga f fun q => (hZ _ q).2 _ _ _ h.ga, bx_fr h.wa f fun q => (hZ _ q).2 _ _ _ h.wa, ?_, bx_fr h.sb f fun q => (hZ _ q).2 _ _ _ h.sb, h.ne, h.kp.trans (f.below h.kp.size fun k hk q => ?_)⟩
  · obtain ⟨c, e, g, hc⟩ := h.tx.cells k q
    exact (hZ k hk).2 _ _ _ hc
  · obtain ⟨g, cap, cur, a, b, e1, e2, e3⟩ := h.wr
    refine ⟨g, cap, cur, a, b, e1, ?_, e3⟩
    rw [f.block g (Array.getElem?_eq_some_iff.1 e2).1 fun q => (hZ _ q).2 _ _ _ e2]
    exact e2
  · have := (hZ k q).1; omega
theorem Rs.own {w : World} {bT bG bW bS B : Nat} {wv : Value} {S last : ByteArray} {xs : List UInt8} {v : Value} {W W1 : World} {row : Option Nat} (h : Rs w bT bG bW bS wv S last xs v W) (hg : W.grownBy W1 row) (hr : ∀ r, row = some r → B ≤ r ∧ ∃ o : Obj, W.heap[r]? = some o ∧ o.isCells = false) (hB : w.heap.size ≤ B) : Rs w bT bG bW bS wv S last xs v W1 := by
  refine h.fr (Z := fun k => row = some k) ⟨hg.os, hg.tape, hg.output, hg.size, fun k hk q => hg.block k hk fun e => q e.symm⟩ fun k hk => ?_
  obtain ⟨h1, o, h2, h3⟩ := hr k hk
  refine ⟨by omega, fun c e g hc => ?_⟩
  rw [h2] at hc
  injection hc with hc
  rw [hc] at h3; cases h3
def resW (w : World) (S last : ByteArray) (cp : Nat) : World :=
  (((((w.alloc (.cells #[.slice none 0 0] 25)).alloc (.cells #[.func (.func 21) #[] #[.pointer (some ⟨w.heap.size, 0, none⟩)]] 43)).alloc
    (.cells (bytesRow last cp) 5 ((bytesRow last cp).size, (bytesRow last cp).size + 1))).alloc (.cells #[.slice (some ⟨w.heap.size + 1 + 1, 0, none⟩) last.size cp] 25)).alloc (.cells #[.string S] 9)).drew
theorem resW_size (w : World) (S last : ByteArray) (cp : Nat) : (resW w S last cp).heap.size = w.heap.size + 5 := by
  unfold resW; rw [kp_drew_size, alloc_size, alloc_size, alloc_size, alloc_size, alloc_size]
theorem rs_start (w : World) (S last : ByteArray) (cp : Nat) : Rs w w.heap.size (w.heap.size + 1) (w.heap.size + 1 + 1 + 1) (w.heap.size + 1 + 1 + 1 + 1) (.slice (some ⟨w.heap.size + 1 + 1, 0, none⟩) last.size cp) S last [] (.slice none 0 0) (resW w S last cp) := by
  obtain ⟨w1, h1⟩ : ∃ w1, w.alloc (.cells #[.slice none 0 0] 25) = w1 := ⟨_, rfl⟩
  have t1 := Tx.nil w.heap.size w (Nat.le_refl _)
  have k1 := kp_alloc w (.cells #[.slice none 0 0] 25)
  have z1 := alloc_size w (.cells #[.slice none 0 0] 25)
  rw [h1] at t1 k1 z1
  obtain ⟨w2, h2⟩ : ∃ w2, w1.alloc (.cells #[.func (.func 21) #[] #[.pointer (some ⟨w.heap.size, 0, none⟩)]] 43) = w2 := ⟨_, rfl⟩
  have b2 := Boxed.new w1 43 (.func (.func 21) #[] #[.pointer (some ⟨w.heap.size, 0, none⟩)])
  have k2 := kp_alloc w1 (.cells #[.func (.func 21) #[] #[.pointer (some ⟨w.heap.size, 0, none⟩)]] 43)
  have z2 := alloc_size w1 (.cells #[.func (.func 21) #[] #[.pointer (some ⟨w.heap.size, 0, none⟩)]] 43)
  rw [h2] at b2 k2 z2
  obtain ⟨w3, h3⟩ : ∃ w3, w2.alloc (.cells (bytesRow last cp) 5 ((bytesRow last cp).size, (bytesRow last cp).size + 1)) = w3 := ⟨_, rfl⟩
  have r3 := alloc_new w2 (.cells (bytesRow last cp) 5 ((bytesRow last cp).size, (bytesRow last cp).size + 1))
  have k3 := kp_alloc w2 (.cells (bytesRow last cp) 5 ((bytesRow last cp).size, (bytesRow last cp).size + 1))
  have z3 := alloc_size w2 (.cells (bytesRow last cp) 5 ((bytesRow last cp).size, (bytesRow last cp).size + 1))
  rw [h3] at r3 k3 z3
  obtain ⟨w4, h4⟩ : ∃ w4, w3.alloc (.cells #[.slice (some ⟨w.heap.size + 1 + 1, 0, none⟩) last.size cp] 25) = w4 := ⟨_, rfl⟩
  have b4 := Boxed.new w3 25 (.slice (some ⟨w.heap.size + 1 + 1, 0, none⟩) last.size cp)
  have k4 := kp_alloc w3 (.cells #[.slice (some ⟨w.heap.size + 1 + 1, 0, none⟩) last.size cp] 25)
  have z4 := alloc_size w3 (.cells #[.slice (some ⟨w.heap.size + 1 + 1, 0, none⟩) last.size cp] 25)
  rw [h4] at b4 k4 z4
  obtain ⟨w5, h5⟩ : ∃ w5, (w4.alloc (.cells #[.string S] 9)) = w5 := ⟨_, rfl⟩
  have b5 := Boxed.new w4 9 (.string S)
  have k5 := kp_alloc w4 (.cells #[.string S] 9)
  rw [h5] at b5 k5
  have k6 := kp_drew w5
  have e : resW w S last cp = w5.drew := by unfold resW; rw [h1, h2, h3, h4, h5]
  rw [e]
  have k36 : Kp w3 w5.drew := kp_trans k4 (kp_trans k5 k6)
  refine ⟨t1.kp (kp_trans k2 (kp_trans k3 k36)), ?_, ?_, ⟨w.heap.size + 1 + 1, cp, bytesRow last cp, (bytesRow last cp).size, (bytesRow last cp).size, rfl, ?_, ?_⟩, ?_, by omega, kp_trans k1 (kp_trans k2 (kp_trans k3 k36))⟩
  · rw [← z1]; exact bx_kp b2 (kp_trans k3 k36)
  · rw [← z1, ← z2, ← z3]; exact bx_kp (by rw [z2, z1]; exact b4) (kp_trans k5 k6)
  · rw [k36.block _ (by omega)]
    rw [← z1, ← z2]; exact r3
  · intro j u hu
    have hj := (List.getElem?_eq_some_iff.1 hu).1
    rw [bcs_len] at hj
    unfold bytesRow
    rw [Array.getElem?_append_left (by simpa using hj)]
    rw [← hu]
    simp [bcs]
  · rw [← z1, ← z2, ← z3, ← z4]; exact bx_kp b5 k6
set_option maxHeartbeats 4000000 in
set_option maxRecDepth 100000 in
theorem resolve_any (S last : ByteArray) (hS : S.size ≤ 2000) (hl : last.size ≤ 1000) (w : World) : Calls Try.prog 12 #[.string S, .string last] w fun e w' => e = .returned (.string ⟨(resF S.data.toList last.data.toList).toArray⟩) ∧ Kp w w' := by
  have hmf : ∀ (fn : Fn) (first cap : Array Value) (w : World), (Instr.makeFunc fn first cap).run Try.prog w = .ok (.func fn first cap) w := fun _ _ _ _ => rfl
  have kc := fun (w : World) => run_bytes_of_string (P := Try.prog) w 9 25 5 last Try.underlying9 Try.underlying25 Try.underlying5
  refine (callsIn_wide (n := 4)).1 ?_
  refine callsIn_of_wp_marks Try.func12 rfl trivial ?_ rfl
  simp only [Try.ntmps12, List.size_toArray, List.length_cons, List.length_nil, Nat.reduceAdd, Nat.reduceSub, Array.replicate_succ, Array.replicate_zero, List.push_toArray, List.append_toArray, List.nil_append, List.cons_append]
  refine wpIn_wide.2 ?_
  go_wp2_with fail
  refine (signs_any S _).mono ?_
  rintro e w1 ⟨rfl, rfl⟩
  go_wp2_with fail
  obtain ⟨cp, hcp⟩ : ∃ cp, grownCap ((w.alloc (.cells #[.slice none 0 0] 25)).alloc (.cells #[.func (.func 21) #[] #[.pointer (some ⟨w.heap.size, 0, none⟩)]] 43)) last.size 0 5 = cp := ⟨_, rfl⟩
  rw [hcp]
  have HS : Hid _ := rs_start w S last cp
  have hz := resW_size w S last cp
  have HL : Hid (∀ l : List (UInt8 × Bool), l.length ≤ 2000 → (resL last.data.toList l).length ≤ 5000000) := fun l h => by
    have h1 := resL_len last.data.toList l
    have h2 : last.data.toList.length ≤ 1000 := by simpa using hl
    have h3 : l.length * (last.data.toList.length + 2) ≤ 2000 * 1002 := Nat.mul_le_mul h (by omega)
    omega
  unfold resW at HS hz
  generalize (((((w.alloc (.cells #[.slice none 0 0] 25)).alloc (.cells #[.func (.func 21) #[] #[.pointer (some ⟨w.heap.size, 0, none⟩)]] 43)).alloc
    (.cells (bytesRow last cp) 5 ((bytesRow last cp).size, (bytesRow last cp).size + 1))).alloc (.cells #[.slice (some ⟨w.heap.size + 1 + 1, 0, none⟩) last.size cp] 25)).alloc (.cells #[.string S] 9)).drew = W0 at HS hz ⊢
  clear hcp kc
  have HSQ : Hid _ := signs_seq Fence.wide 3 trivial rfl (by omega) (w.heap.size + 1 + 1 + 1 + 1) w.heap.size S (by omega) HS.out.sb
  refine (wpIn_wide (n := 4)).1 (wpIn_rangeFunc_ownG rfl (by omega) (gf := 22) (lb := #[.pointer (some ⟨w.heap.size + 1 + 1 + 1 + 1, 0, none⟩)]) rfl trivial (enters_of Try.func22 (by kernel_rfl) rfl)
    HSQ.out Kpb.trans (fun W l o o' hl _ _ _ => Kpb.put (by omega) (by omega)) (Below.refl _ _) (fun _ => rfl)
    (fun pre W => ∃ v, Rs w w.heap.size (w.heap.size + 1) (w.heap.size + 1 + 1 + 1) (w.heap.size + 1 + 1 + 1 + 1) (.slice (some ⟨w.heap.size + 1 + 1, 0, none⟩) last.size cp) S last (resL last.data.toList pre) v W) (fun _ _ _ => False)
    (fun s A B row hs hg hr => by obtain ⟨v, hs⟩ := hs; exact ⟨v, hs.own hg hr (by omega)⟩)
    (fun _ _ _ _ _ hs _ _ => hs) ⟨_, HS.out⟩
    (fun p => { tmps := #[.string S, .string last, undef, undef, .string ⟨#[]⟩, .pointer (some ⟨w.heap.size, 0, none⟩), .pointer (some ⟨w.heap.size + 1, 0, none⟩), .pointer (some ⟨w.heap.size + 1 + 1 + 1, 0, none⟩), .int .u8 p.1.toNat, .bool p.2, .func (.func 21) #[] #[.pointer (some ⟨w.heap.size, 0, none⟩)], .string last, .slice (some ⟨w.heap.size + 1 + 1, 0, none⟩) last.size cp, .string S, .func (.func 22) #[] #[.pointer (some ⟨w.heap.size + 1 + 1 + 1 + 1, 0, none⟩)], .int .u8 p.1.toNat, .bool p.2,
      undef, undef, undef, undef, undef, undef, undef, undef, undef, undef, undef, undef, undef, undef, undef, undef, undef, undef, undef, undef, undef, undef, undef, undef, undef, undef], defers := [] }) ?assign ?body ?done ?stop)
  case assign =>
    intro l p W K hK
    gi_wp2
    exact hK
  case body =>
    rintro l pre ⟨c, esc⟩ W ⟨v, hR⟩ hpre
    have hpl : (resL last.data.toList (pre ++ [(c, esc)])).length ≤ 5000000 := HL.out _ (by have := sgns_len S.data.toList; have h2 : S.data.toList.length ≤ 2000 := by simpa using hS
                                                                                            simp only [List.length_append, List.length_cons, List.length_nil]; omega)
    rw [resL_snoc, List.length_append] at hpl
    have cG := hR.ga.cell
    have cW := hR.wa.cell
    have HR : Hid (Rs w w.heap.size (w.heap.size + 1) (w.heap.size + 1 + 1 + 1) (w.heap.size + 1 + 1 + 1 + 1) (.slice (some ⟨w.heap.size + 1 + 1, 0, none⟩) last.size cp) S last (resL last.data.toList pre) v W) := hR
    have HE : Hid (∀ X W' v', resOne last.data.toList (c, esc) = X → Tx w.heap.size w.heap.size (resL last.data.toList pre ++ X) v' W' → Fr (TxS w.heap.size v) W W' → KeepsFrom W0.heap.size W W' ∧ Kpb w.heap.size (w.heap.size + 1 + 1 + 1 + 1) W W' ∧ ∃ v, Rs w w.heap.size (w.heap.size + 1) (w.heap.size + 1 + 1 + 1) (w.heap.size + 1 + 1 + 1 + 1) (.slice (some ⟨w.heap.size + 1 + 1, 0, none⟩) last.size cp) S last (resL last.data.toList (pre ++ [(c, esc)])) v W') := by
      intro X W' v' hX ht f
      rw [← hX, ← resL_snoc] at ht
      refine ⟨keepsFrom_of_fr _ f hR.tx.cells, Kpb.of_fr f fun k hk => ⟨hR.tx.from k hk, fun e => ?_⟩, v', hR.more ht f⟩
      have h1 := hR.tx.off hR.sb (fun e => by omega) (by decide)
      rw [e] at hk
      exact h1 hk
    clear hR HL HSQ HS
    by_cases h126 : c = 126
    · subst h126
      cases esc with
      | false =>
        simp only [resOne, if_true, if_false, Bool.false_eq_true] at hpl
        obtain ⟨g, cap, cur, a, b, e1, e2, e3⟩ := HR.out.wr
        have HC : Hid (∀ j u, (bcs last.data.toList)[j]? = some u → W.cell? ((⟨w.heap.size + 1 + 1, 0, none⟩ : Addr).add j) = some u) := by
          injection e1 with e1
          injection e1 with e1
          injection e1 with e1
          subst e1
          intro j u hu
          rw [addr_add, cell_at e2]
          exact e3 j u hu
        clear e1 e2 e3
        gi_wp2
        refine ⟨trivial, (CallsIn.inRound l (callsIn_wide.2 (gatherR_any HR.out.tx HR.out.kp.size _ _ _ last.data.toList (by simp) HC.out (by have := hpl; simp at this; omega)))).mono ?_⟩
        rintro e W1 ⟨rfl, v', ht, hf⟩
        have HF : Hid _ := HE.out _ _ _ (by simp [resOne]) ht hf
        clear ht hf
        gi_wp2
        exact HF.out
      | true =>
        simp only [resOne, if_true, if_false, Bool.false_eq_true] at hpl
        gi_wp2
        refine ⟨trivial, (CallsIn.inRound l (callsIn_wide.2 (gatherR_any (HR.out.tx.kp (kp_alloc _ _)) (by rw [alloc_size]; have := HR.out.kp.size; omega) _ _ _ [126] rfl (fun j u hu => cell_one_new _ _ _ j u hu) (by simp at hpl ⊢; omega)))).mono ?_⟩
        rintro e W1 ⟨rfl, v', ht, hf⟩
        have HF : Hid _ := HE.out _ _ _ (by simp [resOne]) ht hf.frAlloc
        clear ht hf
        gi_wp2
        exact HF.out
    · have h9 : c.toNat ≠ 126 := fun h => h126 (UInt8.toNat_inj.1 h)
      have e9 : ((c.toNat : Int) == 126) = false := by simp; omega
      have e9' : ((c.toNat : Int) != 126) = true := by simp; omega
      cases esc with
      | false =>
        simp only [resOne, h126, if_false, Bool.false_eq_true] at hpl
        gi_wp2
        refine ⟨trivial, (CallsIn.inRound l (callsIn_wide.2 (gatherR_any (HR.out.tx.kp (kp_alloc _ _)) (by rw [alloc_size]; have := HR.out.kp.size; omega) _ _ _ [c] rfl (fun j u hu => cell_one_new _ _ _ j u hu) (by simp at hpl ⊢; omega)))).mono ?_⟩
        rintro e W1 ⟨rfl, v', ht, hf⟩
        have HF : Hid _ := HE.out _ _ _ (by simp [resOne, h126]) ht hf.frAlloc
        clear ht hf
        gi_wp2
        exact HF.out
      | true =>
        simp only [resOne, h126, if_false, if_true] at hpl
        gi_wp2
        refine ⟨trivial, (CallsIn.inRound l (callsIn_wide.2 (gatherR_any (HR.out.tx.kp (kp_alloc _ _)) (by rw [alloc_size]; have := HR.out.kp.size; omega) _ _ _ [92, c] rfl (fun j u hu => by rw [addr_add, cell_at (alloc_new _ _)]; rw [← hu]; match j with | 0 => rfl | 1 => rfl | (k + 2) => simp [bcs]) (by simp at hpl ⊢; omega)))).mono ?_⟩
        rintro e W1 ⟨rfl, v', ht, hf⟩
        have HF : Hid _ := HE.out _ _ _ (by simp [resOne, h126]) ht hf.frAlloc
        clear ht hf
        gi_wp2
        exact HF.out
  case done =>
    rintro D xs W hD rfl ⟨v, hR⟩ hK
    have c0 := hR.tx.box.cell
    have kc := hR.tx.str
    obtain ⟨va, vc, rfl, v1, v2⟩ := owns_form hR.tx.row
    have HK : Hid (Kp w (W.putObj D (.deferred none))) := kp_put hR.kp (by omega)
    clear v1 v2 hR HL HSQ HS
    go_wp2_with fail
    refine ⟨by simp, .inl ⟨_, _, rfl, run_takeDeferred hK, ?_⟩⟩
    exact ⟨_, results_tmp rfl _ _ _, rfl, HK.out⟩
  case stop =>
    rintro D c pre W _ _ h _
    exact h.elim
end Go.Proofs.Ytbeaoonddlfcgaa
/- Pieces: what one sign is. -/
namespace Go.Proofs.Ytbeaoonddlfcgaa
open Go.ChangeShapes Go.WideShapes Go.ChangeAt Go.RowKit Go.Shelf
set_option linter.unusedVariables false
set_option linter.unusedSimpArgs false
/-- A piece of a replacement. -/
structure Tm where
  kd : Nat
  tx : List UInt8
  n : Nat
  c : Nat
deriving DecidableEq
def Tm.cells (t : Tm) : List Value := [.int .u8 t.kd, .string ⟨t.tx.toArray⟩, .int .i64 t.n, .int .u8 t.c]
def Tm.val (t : Tm) : Value := .agg #[.int .u8 t.kd, .string ⟨t.tx.toArray⟩, .int .i64 t.n, .int .u8 t.c]
def tm0 : Tm := ⟨0, [], 0, 0⟩
/-- The piece that a sign is by itself. -/
def pieceF (p : UInt8 × Bool) : Option Tm :=
  if p.2 then (if 48 ≤ p.1.toNat ∧ p.1.toNat ≤ 57 then some ⟨2, [], p.1.toNat - 48, 0⟩ else if p.1 = 114 then some ⟨3, [], 0, 0⟩ else if p.1 = 117 ∨ p.1 = 108 ∨ p.1 = 85 ∨ p.1 = 76 then some ⟨4, [], 0, p.1.toNat⟩ else if p.1 = 101 ∨ p.1 = 69 then some ⟨4, [], 0, 69⟩ else none)
  else if p.1 = 38 then some ⟨2, [], 0, 0⟩ else none
/-- The byte that a sign is else. -/
def byteF (p : UInt8 × Bool) : UInt8 := if p.2 then (if p.1 = 110 then 0 else if p.1 = 116 then 9 else p.1) else p.1
theorem tm_put {w : World} {n : Nat} {cur : Array Value} (h : w.heap[n]? = some (.cells cur 27 (0, 0))) (hc : cur.size = 4) (a b c d : Value) : (((((w.setCell ⟨n, 0, none⟩ a).setCell ⟨n, 1, none⟩ b).setCell ⟨n, 2, none⟩ c).setCell ⟨n, 3, none⟩ d).cell? ⟨n, 0, none⟩ = some a ∧ ((((w.setCell ⟨n, 0, none⟩ a).setCell ⟨n, 1, none⟩ b).setCell ⟨n, 2, none⟩ c).setCell ⟨n, 3, none⟩ d).cell? ⟨n, 1, none⟩ = some b ∧ ((((w.setCell ⟨n, 0, none⟩ a).setCell ⟨n, 1, none⟩ b).setCell ⟨n, 2, none⟩ c).setCell ⟨n, 3, none⟩ d).cell? ⟨n, 2, none⟩ = some c ∧ ((((w.setCell ⟨n, 0, none⟩ a).setCell ⟨n, 1, none⟩ b).setCell ⟨n, 2, none⟩ c).setCell ⟨n, 3, none⟩ d).cell? ⟨n, 3, none⟩ = some d) := by
  have h0 := heap_setCell (off := 0) (v := a) h
  have h1 := heap_setCell (off := 1) (v := b) h0
  have h2 := heap_setCell (off := 2) (v := c) h1
  have h3 := heap_setCell (off := 3) (v := d) h2
  refine ⟨?_, ?_, ?_, ?_⟩ <;> rw [cell_at h3] <;> simp [Array.getElem?_setIfInBounds, hc]
theorem kp_put4 (w : World) (ob : Obj) (a b c d : Value) : Kp w (((((w.alloc ob).setCell ⟨w.heap.size, 0, none⟩ a).setCell ⟨w.heap.size, 1, none⟩ b).setCell ⟨w.heap.size, 2, none⟩ c).setCell ⟨w.heap.size, 3, none⟩ d) :=
  ((((Fr.alloc (fun _ => False) w ob).new (Nat.le_refl _)).new (Nat.le_refl _)).new (Nat.le_refl _)).new (Nat.le_refl _) |>.below (Nat.le_refl _) fun _ _ h => h
theorem byteOf_any (p : UInt8 × Bool) (w : World) : Calls Try.prog 18 #[.int .u8 p.1.toNat, .bool p.2] w fun e w' => e = .returned (.int .u8 (byteF p).toNat) ∧ w' = w := by
  obtain ⟨c, esc⟩ := p
  cases esc with
  | false =>
    simp only [byteF, if_false, Bool.false_eq_true]
    go_enter Try.func18, Try.ntmps18
    go_wp2
    go_ret
    exact ⟨rfl, rfl⟩
  | true =>
    simp only [byteF, if_true]
    by_cases h1 : c = 110
    · subst h1
      go_enter Try.func18, Try.ntmps18
      go_wp2
      go_ret
      exact ⟨rfl, rfl⟩
    · by_cases h2 : c = 116
      · subst h2
        go_enter Try.func18, Try.ntmps18
        go_wp2
        go_ret
        exact ⟨rfl, rfl⟩
      · have n1 : c.toNat ≠ 110 := fun h => h1 (UInt8.toNat_inj.1 h)
        have n2 : c.toNat ≠ 116 := fun h => h2 (UInt8.toNat_inj.1 h)
        have e1 : ((c.toNat : Int) == 110) = false := by simp; omega
        have e2 : ((c.toNat : Int) == 116) = false := by simp; omega
        rw [if_neg h1, if_neg h2]
        clear n1 n2 h1 h2
        go_enter Try.func18, Try.ntmps18
        go_wp2
        go_ret
        exact ⟨rfl, rfl⟩
theorem tm_new (w : World) (a b c d : Value) : (w.alloc (.cells #[a, b, c, d] 27)).cell? ⟨w.heap.size, 0, none⟩ = some a ∧ (w.alloc (.cells #[a, b, c, d] 27)).cell? ⟨w.heap.size, 1, none⟩ = some b ∧ (w.alloc (.cells #[a, b, c, d] 27)).cell? ⟨w.heap.size, 2, none⟩ = some c ∧ (w.alloc (.cells #[a, b, c, d] 27)).cell? ⟨w.heap.size, 3, none⟩ = some d := by
  have h := alloc_new w (.cells #[a, b, c, d] 27)
  refine ⟨?_, ?_, ?_, ?_⟩ <;> rw [cell_at h] <;> rfl
set_option maxHeartbeats 2000000 in
theorem pieceOf_amp  (w : World) : Calls Try.prog 17 #[.int .u8 38, .bool false] w fun e w' => e = .returned (.tuple #[.agg #[.int .u8 2, .string ⟨#[]⟩, .int .i64 0, .int .u8 0], .bool true]) ∧ Kp w w' := by
  go_enter Try.func17, Try.ntmps17
  go_wp2
  obtain ⟨e0, e1, e2, e3⟩ := tm_new w (.int .u8 2) (.string ⟨#[]⟩) (.int .i64 0) (.int .u8 0)
  exact bodyPost_ret (v := .tuple #[.agg #[.int .u8 2, .string ⟨#[]⟩, .int .i64 0, .int .u8 0], .bool true]) (by simp [results, Try.results17, go_sem, e0, e1, e2, e3]) rfl ⟨rfl, kp_alloc _ _⟩
set_option maxHeartbeats 2000000 in
theorem pieceOf_plain (c : Nat) (h : c ≠ 38) (w : World) : Calls Try.prog 17 #[.int .u8 c, .bool false] w fun e w' => e = .returned (.tuple #[.agg #[.int .u8 0, .string ⟨#[]⟩, .int .i64 0, .int .u8 0], .bool false]) ∧ Kp w w' := by
  have e1 : ((c : Int) == 38) = false := by simp; omega
  go_enter Try.func17, Try.ntmps17
  go_wp2
  obtain ⟨e0, e1, e2, e3⟩ := tm_new w (.int .u8 0) (.string ⟨#[]⟩) (.int .i64 0) (.int .u8 0)
  exact bodyPost_ret (v := .tuple #[.agg #[.int .u8 0, .string ⟨#[]⟩, .int .i64 0, .int .u8 0], .bool false]) (by simp [results, Try.results17, go_sem, e0, e1, e2, e3]) rfl ⟨rfl, kp_alloc _ _⟩
set_option maxHeartbeats 2000000 in
theorem pieceOf_dig (c : Nat) (h : 48 ≤ c ∧ c ≤ 57) (w : World) : Calls Try.prog 17 #[.int .u8 c, .bool true] w fun e w' => e = .returned (.tuple #[.agg #[.int .u8 2, .string ⟨#[]⟩, .int .i64 ((c : Int) - 48), .int .u8 0], .bool true]) ∧ Kp w w' := by
  have d1 : decide ((48 : Int) ≤ (c : Int)) = true := decide_eq_true (by omega)
  have d2 : decide ((c : Int) ≤ 57) = true := decide_eq_true (by omega)
  have d3 : (48 : Int) ≤ (c : Int) ∧ (c : Int) ≤ 57 := by omega
  go_enter Try.func17, Try.ntmps17
  go_wp2
  obtain ⟨e0, e1, e2, e3⟩ := tm_new w (.int .u8 2) (.string ⟨#[]⟩) (.int .i64 ((c : Int) - 48)) (.int .u8 0)
  exact bodyPost_ret (v := .tuple #[.agg #[.int .u8 2, .string ⟨#[]⟩, .int .i64 ((c : Int) - 48), .int .u8 0], .bool true]) (by simp [results, Try.results17, go_sem, e0, e1, e2, e3]) rfl ⟨rfl, kp_alloc _ _⟩
set_option maxHeartbeats 2000000 in
theorem pieceOf_r  (w : World) : Calls Try.prog 17 #[.int .u8 114, .bool true] w fun e w' => e = .returned (.tuple #[.agg #[.int .u8 3, .string ⟨#[]⟩, .int .i64 0, .int .u8 0], .bool true]) ∧ Kp w w' := by
  go_enter Try.func17, Try.ntmps17
  go_wp2
  obtain ⟨e0, e1, e2, e3⟩ := tm_new w (.int .u8 3) (.string ⟨#[]⟩) (.int .i64 0) (.int .u8 0)
  exact bodyPost_ret (v := .tuple #[.agg #[.int .u8 3, .string ⟨#[]⟩, .int .i64 0, .int .u8 0], .bool true]) (by simp [results, Try.results17, go_sem, e0, e1, e2, e3]) rfl ⟨rfl, kp_alloc _ _⟩
set_option maxHeartbeats 2000000 in
theorem pieceOf_u117  (w : World) : Calls Try.prog 17 #[.int .u8 117, .bool true] w fun e w' => e = .returned (.tuple #[.agg #[.int .u8 4, .string ⟨#[]⟩, .int .i64 0, .int .u8 117], .bool true]) ∧ Kp w w' := by
  go_enter Try.func17, Try.ntmps17
  go_wp2
  obtain ⟨e0, e1, e2, e3⟩ := tm_new w (.int .u8 4) (.string ⟨#[]⟩) (.int .i64 0) (.int .u8 117)
  exact bodyPost_ret (v := .tuple #[.agg #[.int .u8 4, .string ⟨#[]⟩, .int .i64 0, .int .u8 117], .bool true]) (by simp [results, Try.results17, go_sem, e0, e1, e2, e3]) rfl ⟨rfl, kp_alloc _ _⟩
set_option maxHeartbeats 2000000 in
theorem pieceOf_u108  (w : World) : Calls Try.prog 17 #[.int .u8 108, .bool true] w fun e w' => e = .returned (.tuple #[.agg #[.int .u8 4, .string ⟨#[]⟩, .int .i64 0, .int .u8 108], .bool true]) ∧ Kp w w' := by
  go_enter Try.func17, Try.ntmps17
  go_wp2
  obtain ⟨e0, e1, e2, e3⟩ := tm_new w (.int .u8 4) (.string ⟨#[]⟩) (.int .i64 0) (.int .u8 108)
  exact bodyPost_ret (v := .tuple #[.agg #[.int .u8 4, .string ⟨#[]⟩, .int .i64 0, .int .u8 108], .bool true]) (by simp [results, Try.results17, go_sem, e0, e1, e2, e3]) rfl ⟨rfl, kp_alloc _ _⟩
set_option maxHeartbeats 2000000 in
theorem pieceOf_u85  (w : World) : Calls Try.prog 17 #[.int .u8 85, .bool true] w fun e w' => e = .returned (.tuple #[.agg #[.int .u8 4, .string ⟨#[]⟩, .int .i64 0, .int .u8 85], .bool true]) ∧ Kp w w' := by
  go_enter Try.func17, Try.ntmps17
  go_wp2
  obtain ⟨e0, e1, e2, e3⟩ := tm_new w (.int .u8 4) (.string ⟨#[]⟩) (.int .i64 0) (.int .u8 85)
  exact bodyPost_ret (v := .tuple #[.agg #[.int .u8 4, .string ⟨#[]⟩, .int .i64 0, .int .u8 85], .bool true]) (by simp [results, Try.results17, go_sem, e0, e1, e2, e3]) rfl ⟨rfl, kp_alloc _ _⟩
set_option maxHeartbeats 2000000 in
theorem pieceOf_u76  (w : World) : Calls Try.prog 17 #[.int .u8 76, .bool true] w fun e w' => e = .returned (.tuple #[.agg #[.int .u8 4, .string ⟨#[]⟩, .int .i64 0, .int .u8 76], .bool true]) ∧ Kp w w' := by
  go_enter Try.func17, Try.ntmps17
  go_wp2
  obtain ⟨e0, e1, e2, e3⟩ := tm_new w (.int .u8 4) (.string ⟨#[]⟩) (.int .i64 0) (.int .u8 76)
  exact bodyPost_ret (v := .tuple #[.agg #[.int .u8 4, .string ⟨#[]⟩, .int .i64 0, .int .u8 76], .bool true]) (by simp [results, Try.results17, go_sem, e0, e1, e2, e3]) rfl ⟨rfl, kp_alloc _ _⟩
set_option maxHeartbeats 2000000 in
theorem pieceOf_e101  (w : World) : Calls Try.prog 17 #[.int .u8 101, .bool true] w fun e w' => e = .returned (.tuple #[.agg #[.int .u8 4, .string ⟨#[]⟩, .int .i64 0, .int .u8 69], .bool true]) ∧ Kp w w' := by
  go_enter Try.func17, Try.ntmps17
  go_wp2
  obtain ⟨e0, e1, e2, e3⟩ := tm_new w (.int .u8 4) (.string ⟨#[]⟩) (.int .i64 0) (.int .u8 69)
  exact bodyPost_ret (v := .tuple #[.agg #[.int .u8 4, .string ⟨#[]⟩, .int .i64 0, .int .u8 69], .bool true]) (by simp [results, Try.results17, go_sem, e0, e1, e2, e3]) rfl ⟨rfl, kp_alloc _ _⟩
set_option maxHeartbeats 2000000 in
theorem pieceOf_e69  (w : World) : Calls Try.prog 17 #[.int .u8 69, .bool true] w fun e w' => e = .returned (.tuple #[.agg #[.int .u8 4, .string ⟨#[]⟩, .int .i64 0, .int .u8 69], .bool true]) ∧ Kp w w' := by
  go_enter Try.func17, Try.ntmps17
  go_wp2
  obtain ⟨e0, e1, e2, e3⟩ := tm_new w (.int .u8 4) (.string ⟨#[]⟩) (.int .i64 0) (.int .u8 69)
  exact bodyPost_ret (v := .tuple #[.agg #[.int .u8 4, .string ⟨#[]⟩, .int .i64 0, .int .u8 69], .bool true]) (by simp [results, Try.results17, go_sem, e0, e1, e2, e3]) rfl ⟨rfl, kp_alloc _ _⟩
set_option maxHeartbeats 2000000 in
theorem pieceOf_low (c : Nat) (h : c < 48) (w : World) : Calls Try.prog 17 #[.int .u8 c, .bool true] w fun e w' => e = .returned (.tuple #[.agg #[.int .u8 0, .string ⟨#[]⟩, .int .i64 0, .int .u8 0], .bool false]) ∧ Kp w w' := by
  have d1 : decide ((48 : Int) ≤ (c : Int)) = false := decide_eq_false (by omega)
  have e114 : ((c : Int) == 114) = false := by simp; omega
  have e117 : ((c : Int) == 117) = false := by simp; omega
  have e108 : ((c : Int) == 108) = false := by simp; omega
  have e85 : ((c : Int) == 85) = false := by simp; omega
  have e76 : ((c : Int) == 76) = false := by simp; omega
  have e101 : ((c : Int) == 101) = false := by simp; omega
  have e69 : ((c : Int) == 69) = false := by simp; omega
  go_enter Try.func17, Try.ntmps17
  go_wp2
  obtain ⟨e0, e1, e2, e3⟩ := tm_new w (.int .u8 0) (.string ⟨#[]⟩) (.int .i64 0) (.int .u8 0)
  exact bodyPost_ret (v := .tuple #[.agg #[.int .u8 0, .string ⟨#[]⟩, .int .i64 0, .int .u8 0], .bool false]) (by simp [results, Try.results17, go_sem, e0, e1, e2, e3]) rfl ⟨rfl, kp_alloc _ _⟩
set_option maxHeartbeats 2000000 in
theorem pieceOf_high (c : Nat) (h : 57 < c) (g : c ≠ 114 ∧ c ≠ 117 ∧ c ≠ 108 ∧ c ≠ 85 ∧ c ≠ 76 ∧ c ≠ 101 ∧ c ≠ 69) (w : World) : Calls Try.prog 17 #[.int .u8 c, .bool true] w fun e w' => e = .returned (.tuple #[.agg #[.int .u8 0, .string ⟨#[]⟩, .int .i64 0, .int .u8 0], .bool false]) ∧ Kp w w' := by
  have d1 : decide ((48 : Int) ≤ (c : Int)) = true := decide_eq_true (by omega)
  have d2 : decide ((c : Int) ≤ 57) = false := decide_eq_false (by omega)
  have e114 : ((c : Int) == 114) = false := by simp; omega
  have e117 : ((c : Int) == 117) = false := by simp; omega
  have e108 : ((c : Int) == 108) = false := by simp; omega
  have e85 : ((c : Int) == 85) = false := by simp; omega
  have e76 : ((c : Int) == 76) = false := by simp; omega
  have e101 : ((c : Int) == 101) = false := by simp; omega
  have e69 : ((c : Int) == 69) = false := by simp; omega
  clear g
  go_enter Try.func17, Try.ntmps17
  go_wp2
  obtain ⟨e0, e1, e2, e3⟩ := tm_new w (.int .u8 0) (.string ⟨#[]⟩) (.int .i64 0) (.int .u8 0)
  exact bodyPost_ret (v := .tuple #[.agg #[.int .u8 0, .string ⟨#[]⟩, .int .i64 0, .int .u8 0], .bool false]) (by simp [results, Try.results17, go_sem, e0, e1, e2, e3]) rfl ⟨rfl, kp_alloc _ _⟩
theorem pieceOf_any (p : UInt8 × Bool) (w : World) : Calls Try.prog 17 #[.int .u8 p.1.toNat, .bool p.2] w fun e w' => e = .returned (.tuple #[((pieceF p).getD tm0).val, .bool (pieceF p).isSome]) ∧ Kp w w' := by
  obtain ⟨c, esc⟩ := p
  have key : ∀ k : Nat, k < 256 → (c.toNat = k ↔ c = UInt8.ofNat k) := fun k hk => by
    rw [← UInt8.toNat_inj, UInt8.toNat_ofNat', Nat.mod_eq_of_lt hk]
  cases esc with
  | false =>
    simp only [pieceF, if_false, Bool.false_eq_true]
    by_cases h1 : c = 38
    · subst h1; exact pieceOf_amp w
    · rw [if_neg h1]
      exact pieceOf_plain _ (fun h => h1 ((key 38 (by decide)).1 h)) w
  | true =>
    simp only [pieceF, if_true]
    by_cases h0 : 48 ≤ c.toNat ∧ c.toNat ≤ 57
    · rw [if_pos h0]
      have := pieceOf_dig c.toNat h0 w
      rw [show ((c.toNat : Int) - 48) = ((c.toNat - 48 : Nat) : Int) by omega] at this
      exact this
    rw [if_neg h0]
    by_cases h1 : c = 114
    · subst h1; exact pieceOf_r w
    rw [if_neg h1]
    by_cases h2 : c = 117
    · subst h2; exact pieceOf_u117 w
    by_cases h3 : c = 108
    · subst h3; exact pieceOf_u108 w
    by_cases h4 : c = 85
    · subst h4; exact pieceOf_u85 w
    by_cases h5 : c = 76
    · subst h5; exact pieceOf_u76 w
    rw [if_neg (by simp [h2, h3, h4, h5])]
    by_cases h6 : c = 101
    · subst h6; exact pieceOf_e101 w
    by_cases h7 : c = 69
    · subst h7; exact pieceOf_e69 w
    rw [if_neg (by simp [h6, h7])]
    rcases Nat.lt_or_ge c.toNat 48 with q | q
    · exact pieceOf_low _ q w
    · exact pieceOf_high _ (by omega) ⟨fun h => h1 ((key 114 (by decide)).1 h), fun h => h2 ((key 117 (by decide)).1 h), fun h => h3 ((key 108 (by decide)).1 h), fun h => h4 ((key 85 (by decide)).1 h), fun h => h5 ((key 76 (by decide)).1 h), fun h => h6 ((key 101 (by decide)).1 h), fun h => h7 ((key 69 (by decide)).1 h)⟩ w
end Go.Proofs.Ytbeaoonddlfcgaa
/- Pieces under way, and what lays them. -/
namespace Go.Proofs.Ytbeaoonddlfcgaa
open Go.ChangeShapes Go.WideShapes Go.ChangeAt Go.RowKit Go.Shelf
set_option linter.unusedVariables false
set_option linter.unusedSimpArgs false
def flatT (l : List Tm) : List Value := l.flatMap Tm.cells
theorem flatT_len (l : List Tm) : (flatT l).length = l.length * 4 := by
  induction l with
  | nil => rfl
  | cons t l ih => simp only [flatT, List.flatMap_cons, List.length_append, List.length_cons] at *; rw [ih]; simp [Tm.cells]; omega
theorem flatT_append (a b : List Tm) : flatT (a ++ b) = flatT a ++ flatT b := by simp [flatT]
theorem flatT_one (l : List Tm) : ∀ u ∈ flatT l, u.oneCell' = true := fun u hu => by
  obtain ⟨t, _, ht⟩ := List.mem_flatMap.1 hu
  simp only [Tm.cells, List.mem_cons, List.not_mem_nil, or_false] at ht
  rcases ht with rfl | rfl | rfl | rfl <;> rfl
theorem infoTm : (Try.prog.info? 27).map (fun i => (i.zero, i.size, i.bytes)) = some (some (.agg #[.int .u8 0, .string ⟨#[]⟩, .int .i64 0, .int .u8 0]), 4, 40) := by kernel_rfl
/-- In box 'b' lies a list of pieces. -/
structure Al (n0 b : Nat) (l : List Tm) (v : Value) (W : World) : Prop where
  box : Boxed W b 23 v
  row : W.ownsRow n0 27 4 v l.length (flatT l)
  ge : n0 ≤ b
def AlS (b : Nat) (v : Value) (k : Nat) : Prop := k = b ∨ v.ownBlock = some k
section
variable {n0 b bT bA : Nat} {xs : List UInt8} {l : List Tm} {v va : Value} {W W1 : World}
theorem Al.kp (h : Al n0 b l v W) (k : Kp W W1) : Al n0 b l v W1 := ⟨bx_kp h.box k, row_kp h.row k, h.ge⟩
theorem Al.cells (h : Al n0 b l v W) : ∀ k, AlS b v k → ∃ c e g, W.heap[k]? = some (.cells c e g) ∧ (e = 23 ∨ e = 27) := fun k hk => by
  rcases hk with rfl | hk
  · exact ⟨_, _, _, h.box, .inl rfl⟩
  · rcases h.row.2 with ⟨q, _⟩ | ⟨g, cap, cur, rfl, _, hg, _⟩
    · rw [q] at hk; cases hk
    · simp only [Value.ownBlock, Option.some.injEq] at hk
      exact ⟨_, _, _, hk ▸ hg, .inr rfl⟩
theorem Tx.ty (h : Tx n0 b xs v W) : ∀ k, TxS b v k → ∃ c e g, W.heap[k]? = some (.cells c e g) ∧ (e = 25 ∨ e = 5) := fun k hk => by
  rcases hk with rfl | hk
  · exact ⟨_, _, _, h.box, .inl rfl⟩
  · rcases h.row.2 with ⟨q, _⟩ | ⟨g, cap, cur, rfl, _, hg, _⟩
    · rw [q] at hk; cases hk
    · simp only [Value.ownBlock, Option.some.injEq] at hk
      exact ⟨_, _, _, hk ▸ hg, .inr rfl⟩
theorem apart (ht : Tx n0 bT xs v W) (ha : Al n0 bA l va W) : ∀ k, AlS bA va k → ¬ TxS bT v k := fun k h1 h2 => by
  obtain ⟨c, e, g, q1, q2⟩ := ha.cells k h1
  obtain ⟨c', e', g', q3, q4⟩ := ht.ty k h2
  rw [q1] at q3
  simp only [Option.some.injEq, Obj.cells.injEq] at q3
  obtain ⟨_, rfl, _⟩ := q3
  rcases q2 with rfl | rfl <;> rcases q4 with q4 | q4 <;> exact absurd q4 (by decide)
theorem Al.from (h : Al n0 b l v W) : ∀ k, AlS b v k → n0 ≤ k := fun k hk => by
  rcases hk with rfl | hk
  · exact h.ge
  · exact (h.row.lt k hk).1
theorem Al.fr {S : Nat → Prop} (h : Al n0 b l v W) (f : Fr S W W1) (hn : ∀ k, S k → ¬ AlS b v k) : Al n0 b l v W1 :=
  ⟨bx_fr h.box f fun q => hn _ q (Or.inl rfl), row_fr h.row f fun j hj q => hn _ q (Or.inr hj), h.ge⟩
theorem Al.nil (n0 : Nat) (W : World) (hn : n0 ≤ W.heap.size) : Al n0 W.heap.size [] (.slice none 0 0) (W.alloc (.cells #[.slice none 0 0] 23)) :=
  ⟨Boxed.new W _ _, World.ownsRow_nil _ _ _ _, hn⟩
/-- Behind an append and the store of what it gives. -/
theorem Al.more (h : Al n0 b l v W) {w0 w1 : World} {g n cap : Nat} {t : Tm} (k : Kp W w0) (ho : w1.ownsRow n0 27 4 (.slice (some ⟨g, 0, none⟩) n cap) (l.length + 1) (flatT l ++ t.cells)) (hg : w0.grownBy w1 v.ownBlock) (hat : v.ownBlock = some g ∨ g = w0.heap.size) :
    (w1.cell? ⟨b, 0, none⟩ = some v ∧ w1.frozen? ⟨b, 0, none⟩ = false) ∧ Al n0 b (l ++ [t]) (.slice (some ⟨g, 0, none⟩) n cap) (w1.setCell ⟨b, 0, none⟩ (.slice (some ⟨g, 0, none⟩) n cap)) ∧ Fr (AlS b v) W (w1.setCell ⟨b, 0, none⟩ (.slice (some ⟨g, 0, none⟩) n cap)) ∧ ∀ j, j < W.heap.size → AlS b (.slice (some ⟨g, 0, none⟩) n cap) j → AlS b v j := by
  have hb0 := bx_kp h.box k
  have hr0 := row_kp h.row k
  have hb1 : Boxed w1 b 23 v := hb0.kept hg (hb0.not_row (by decide) hr0)
  have f1 : Fr (AlS b v) W w1 := ⟨hg.os.trans k.os, hg.tape.trans k.tape, hg.output.trans k.output, Nat.le_trans k.size hg.size, fun j hj q => by
    rw [hg.block j (Nat.lt_of_lt_of_le hj k.size) fun e => q (Or.inr e.symm)]; exact k.block j hj⟩
  refine ⟨⟨hb1.cell, hb1.frozen⟩, ⟨hb1.set _, ?_, h.ge⟩, f1.trans (Fr.setCell (Or.inl rfl) w1), fun j hj q => ?_⟩
  · rw [List.length_append, flatT_append]
    refine row_fr (by simpa [flatT] using ho) (fr_set b 0 _ w1) fun j hj q => ?_
    unfold On at q
    subst q
    exact hb1.not_row (by decide) ho hj.symm
  · rcases q with q | q
    · exact .inl q
    · simp only [Value.ownBlock, Option.some.injEq] at q
      rcases hat with e | e
      · exact .inr (by rw [e, q])
      · have := k.size; omega
/-- The text is emptied. -/
theorem Tx.empty {g K cap : Nat} (h : Tx n0 b xs (.slice (some ⟨g, 0, none⟩) K cap) W) : Tx n0 b [] (.slice (some ⟨g, 0, none⟩) 0 cap) (W.setCell ⟨b, 0, none⟩ (.slice (some ⟨g, 0, none⟩) 0 cap)) := by
  refine ⟨h.box.set _, ?_, h.ge⟩
  have hr : W.ownsRow n0 5 1 (.slice (some ⟨g, 0, none⟩) 0 cap) 0 [] := by
    rcases h.row.2 with ⟨q, _⟩ | ⟨g', cap', cur, e, hb, hg, h1, h2, h3, h4⟩
    · cases q
    · injection e with e1 e2 e3
      injection e1 with e1
      injection e1 with e1
      subst e1 e3
      exact ⟨rfl, .inr ⟨g, cap, cur, rfl, hb, hg, Nat.zero_le _, h2, h3, by simp⟩⟩
  refine row_fr hr (fr_set b 0 _ W) fun j hj q => ?_
  unfold On at q
  subst q
  exact h.box.not_row (by decide) hr hj.symm
end
/-- What lay does to the pieces. -/
def layF (xs : List UInt8) (l : List Tm) : List Tm := if xs = [] then l else l ++ [⟨1, xs, 0, 0⟩]
def LyS (bT bA : Nat) (v va : Value) (k : Nat) : Prop := TxS bT v k ∨ AlS bA va k
section
variable {n0 bT bA : Nat} {xs : List UInt8} {l : List Tm} {v va : Value} {w : World}
def Layd (n0 bT bA : Nat) (v va : Value) (l : List Tm) (w w' : World) : Prop := ∃ v' va', Tx n0 bT [] v' w' ∧ Al n0 bA l va' w' ∧ Fr (LyS bT bA v va) w w'
-- WAYS
theorem Al.keep (h : Al n0 bA l va w) : Al n0 bA l va (w.setCell ⟨bA, 0, none⟩ va) :=
  ⟨h.box.set _, row_fr h.row (fr_set bA 0 _ w) fun j hj q => by unfold On at q; subst q; exact h.box.not_row (by decide) h.row hj.symm, h.ge⟩
theorem tm_news {g : Nat} {t : Tm} {w : World} (hs : w.heap[g]? = some (.cells t.cells.toArray 27 (0, 0))) : ∀ j u, t.cells[j]? = some u → w.cell? ((⟨g, 0, none⟩ : Addr).add j) = some u := fun j u hu => by
  rw [addr_add, cell_at hs]
  simpa using hu
theorem tm_one (t : Tm) : ∀ u ∈ t.cells, u.oneCell' = true := fun u hu => by
  simp only [Tm.cells, List.mem_cons, List.not_mem_nil, or_false] at hu
  rcases hu with rfl | rfl | rfl | rfl <;> rfl
set_option maxHeartbeats 2000000 in
theorem lay_no (ht : Tx n0 bT [] v w) (ha : Al n0 bA l va w) (hn : n0 ≤ w.heap.size) (hl : l.length ≤ 1000000) :
    Calls Try.prog 15 #[.slice none 0 0, .pointer (some ⟨bT, 0, none⟩), .pointer (some ⟨bA, 0, none⟩)] w fun e w' => e = .returned (.tuple #[]) ∧ Layd n0 bT bA v va (l) w w' := by
  obtain ⟨i9, hi9, z0, z1, z2⟩ := info_parts infoTm
  have c0 := ht.box.cell
  have f0 := ht.box.frozen
  have c1 := ha.box.cell
  have f1 := ha.box.frozen
  obtain ⟨a1, a2, rfl, q1, q2⟩ := owns_form ht.row
  clear q1 q2
  obtain ⟨b1, b2, rfl, q3, q4⟩ := owns_form ha.row
  clear q3 q4
  obtain ⟨N, hN⟩ : ∃ N, l.length = N := ⟨_, rfl⟩
  have hal := ha
  rw [hN] at c1 hl hal ⊢
  have hap := apart ht hal
  simp only [List.length_nil] at c0 ht hap ⊢
  have HR : Hid (w.ownsRow n0 27 4 (.slice b1 N b2) N (flatT l)) := by rw [← hN]; exact ha.row
  have HE : Hid (Layd n0 bT bA (.slice a1 0 a2) (.slice b1 N b2) (l) w (w.setCell ⟨bA, 0, none⟩ (.slice b1 N b2))) :=
    ⟨_, _, ht.fr (fr_set bA 0 _ w) fun k hk => hap k (.inl hk), hal.keep, (fr_set bA 0 _ w).mono fun k _ q => .inr (.inl q)⟩
  clear ht ha hal hN hap
  go_enter Try.func15, Try.ntmps15
  go_wp2_with (at_builtin; refine wpList_append_own_none rfl (.tmp 15) (.tmp 16) 23 rfl n0 27 i9 4 Try.underlying23 hi9 (.slice b1 N b2) N (flatT l) rfl HR.out rfl ?_)
  go_end0
  exact ⟨rfl, HE.out⟩
set_option maxHeartbeats 2000000 in
theorem lay_one (ht : Tx n0 bT [] v w) (ha : Al n0 bA l va w) (hn : n0 ≤ w.heap.size) (hl : l.length ≤ 1000000) {g : Nat} {t : Tm} (hs : w.heap[g]? = some (.cells t.cells.toArray 27 (0, 0))) (hg : va.ownBlock ≠ some g) :
    Calls Try.prog 15 #[.slice (some ⟨g, 0, none⟩) 1 1, .pointer (some ⟨bT, 0, none⟩), .pointer (some ⟨bA, 0, none⟩)] w fun e w' => e = .returned (.tuple #[]) ∧ Layd n0 bT bA v va (l ++ [t]) w w' := by
  obtain ⟨i9, hi9, z0, z1, z2⟩ := info_parts infoTm
  have c0 := ht.box.cell
  have f0 := ht.box.frozen
  have c1 := ha.box.cell
  have f1 := ha.box.frozen
  obtain ⟨a1, a2, rfl, q1, q2⟩ := owns_form ht.row
  clear q1 q2
  obtain ⟨b1, b2, rfl, q3, q4⟩ := owns_form ha.row
  clear q3 q4
  obtain ⟨N, hN⟩ : ∃ N, l.length = N := ⟨_, rfl⟩
  have hal := ha
  rw [hN] at c1 hl hal ⊢
  rw [hN] at hg
  have hap := apart ht hal
  simp only [List.length_nil] at c0 ht hap ⊢
  have HR : Hid (w.ownsRow n0 27 4 (.slice b1 N b2) N (flatT l)) := by rw [← hN]; exact ha.row
  have HE : Hid (∀ g' cap w1, w1.ownsRow n0 27 4 (.slice (some ⟨g', 0, none⟩) (N + 1) cap) (N + 1) (flatT l ++ t.cells) → w.grownBy w1 (Value.slice b1 N b2).ownBlock → ((Value.slice b1 N b2).ownBlock = some g' ∨ g' = w.heap.size) →
      (w1.cell? ⟨bA, 0, none⟩ = some (.slice b1 N b2) ∧ w1.frozen? ⟨bA, 0, none⟩ = false) ∧ Hid (Layd n0 bT bA (.slice a1 0 a2) (.slice b1 N b2) (l ++ [t]) w (w1.setCell ⟨bA, 0, none⟩ (.slice (some ⟨g', 0, none⟩) (N + 1) cap)))) := by
    intro g' cap w1 r1 r2 r3
    rw [← hN] at r1
    obtain ⟨p1, p2, p3, p4⟩ := hal.more (Below.refl _ _) r1 r2 r3
    rw [hN] at p2 p3
    exact ⟨p1, ⟨_, _, ht.fr p3 hap, p2, p3.mono fun k _ q => .inr q⟩⟩
  have HC : Hid _ := tm_news hs
  have HT : Hid _ := tm_one t
  clear ht ha hal hN hap hs hg
  go_enter Try.func15, Try.ntmps15
  go_wp2_with (at_builtin; refine wpList_append_lies _ rfl (.tmp 15) (.tmp 16) 23 rfl n0 27 i9 _ 4 40 Try.underlying23 hi9 z0 z1 z2 rfl (by decide) (.slice b1 N b2) N (flatT l) rfl HR.out ⟨g, 0, none⟩ 1 1 t.cells rfl rfl HC.out HT.out (by omega) (by unfold maxLen; omega) (by omega) hn w.heap.size rfl ?_; intro g' cap w1 r1 r2 r3 r4; obtain ⟨⟨c2, f2⟩, HP⟩ := HE.out g' cap w1 r1 r2 r3; clear r1 r2 r3 r4)
  go_end0
  exact ⟨rfl, HP.out⟩
set_option maxHeartbeats 2000000 in
theorem lay_txt (ht : Tx n0 bT xs v w) (ha : Al n0 bA l va w) (hn : n0 ≤ w.heap.size) (hl : l.length ≤ 1000000) (hx : xs ≠ []) :
    Calls Try.prog 15 #[.slice none 0 0, .pointer (some ⟨bT, 0, none⟩), .pointer (some ⟨bA, 0, none⟩)] w fun e w' => e = .returned (.tuple #[]) ∧ Layd n0 bT bA v va (l ++ [⟨1, xs, 0, 0⟩]) w w' := by
  obtain ⟨i9, hi9, z0, z1, z2⟩ := info_parts infoTm
  have c0 := ht.box.cell
  have f0 := ht.box.frozen
  have c1 := ha.box.cell
  have f1 := ha.box.frozen
  obtain ⟨K, hK⟩ : ∃ K, xs.length = K + 1 := by
    cases xs with
    | nil => exact absurd rfl hx
    | cons a b => exact ⟨b.length, rfl⟩
  have kc := ht.str
  have hrt := ht.row
  rw [hK] at hrt
  obtain ⟨a1, a2, rfl⟩ := ownsRow_succ hrt
  obtain ⟨a4, a3, ea, q1, q2⟩ := owns_form hrt
  injection ea with ea1 ea2 ea
  subst ea
  clear ea1 ea2
  obtain ⟨b1, b2, rfl, q3, q4⟩ := owns_form ha.row
  clear q3 q4
  obtain ⟨N, hN⟩ : ∃ N, l.length = N := ⟨_, rfl⟩
  have hal := ha
  rw [hN] at c1 hl hal ⊢
  have hap := apart ht hal
  have HR : Hid ((w.alloc (.cells #[.int .u8 1, .string ⟨xs.toArray⟩, .int .i64 0, .int .u8 0] 27)).ownsRow n0 27 4 (.slice b1 N b2) N (flatT l)) := by rw [← hN]; exact row_kp ha.row (kp_alloc _ _)
  have HB : Hid (n0 ≤ (w.alloc (.cells #[.int .u8 1, .string ⟨xs.toArray⟩, .int .i64 0, .int .u8 0] 27)).heap.size) := by rw [alloc_size]; exact Nat.le_succ_of_le hn
  have HC : Hid _ := tm_news (t := ⟨1, xs, 0, 0⟩) (alloc_new w (.cells #[.int .u8 1, .string ⟨xs.toArray⟩, .int .i64 0, .int .u8 0] 27))
  have HT : Hid _ := tm_one ⟨1, xs, 0, 0⟩
  have HE : Hid (∀ g' cap w1, w1.ownsRow n0 27 4 (.slice (some ⟨g', 0, none⟩) (N + 1) cap) (N + 1) (flatT l ++ Tm.cells ⟨1, xs, 0, 0⟩) → (w.alloc (.cells #[.int .u8 1, .string ⟨xs.toArray⟩, .int .i64 0, .int .u8 0] 27)).grownBy w1 (Value.slice b1 N b2).ownBlock → ((Value.slice b1 N b2).ownBlock = some g' ∨ g' = w.heap.size + 1) →
      (w1.cell? ⟨bA, 0, none⟩ = some (.slice b1 N b2) ∧ w1.frozen? ⟨bA, 0, none⟩ = false) ∧ (∀ w2, w2 = w1.setCell ⟨bA, 0, none⟩ (.slice (some ⟨g', 0, none⟩) (N + 1) cap) → Hid (Tx n0 bT xs (.slice (some ⟨a1, 0, none⟩) (K + 1) a2) w2 ∧ Al n0 bA (l ++ [⟨1, xs, 0, 0⟩]) (.slice (some ⟨g', 0, none⟩) (N + 1) cap) w2 ∧ Fr (AlS bA (.slice b1 N b2)) w w2 ∧ (∀ j, j < w.heap.size → AlS bA (.slice (some ⟨g', 0, none⟩) (N + 1) cap) j → AlS bA (.slice b1 N b2) j)))) := by
    intro g' cap w1 r1 r2 r3
    rw [← hN] at r1
    obtain ⟨p1, p2, p3, p4⟩ := hal.more (t := ⟨1, xs, 0, 0⟩) (kp_alloc _ _) r1 r2 (by rw [alloc_size]; exact r3)
    rw [hN] at p2 p3 p4
    refine ⟨p1, fun w2 e => ?_⟩
    subst e
    refine ⟨?_, p2, p3, p4⟩
    · exact ht.fr p3 hap
  obtain ⟨lw, hlw⟩ : ∃ lw, l ++ [⟨1, xs, 0, 0⟩] = lw := ⟨_, rfl⟩
  have hlN : lw.length = N + 1 := by rw [← hlw, List.length_append, hN]; rfl
  rw [hlw] at HE ⊢
  clear ht ha hal hN hap hrt hx hlw 
  have dK : decide ((K : Int) + 1 > 0) = true := decide_eq_true (by omega)
  unfold maxLen at q2
  clear hK
  go_enter Try.func15, Try.ntmps15
  go_upto_region 2 with (at_builtin; refine wpList_append_lies _ rfl (.tmp 7) (.tmp 11) 23 rfl n0 27 i9 _ 4 40 Try.underlying23 hi9 z0 z1 z2 rfl (by decide) (.slice b1 N b2) N (flatT l) rfl HR.out ⟨w.heap.size, 0, none⟩ 1 1 (Tm.cells ⟨1, xs, 0, 0⟩) rfl rfl HC.out HT.out (by omega) (by unfold maxLen; omega) (by omega) HB.out (w.heap.size + 1) (alloc_size _ _) ?_; intro g' cap w1 r1 r2 r3 r4; obtain ⟨⟨c2, f2⟩, HP⟩ := HE.out g' cap w1 r1 r2 r3; clear r1 r2 r3 r4)
  obtain ⟨w2, hw2⟩ : ∃ w2, w1.setCell ⟨bA, 0, none⟩ (.slice (some ⟨g', 0, none⟩) (N + 1) cap) = w2 := ⟨_, rfl⟩
  have HQ := HP w2 hw2.symm
  rw [hw2]
  clear hw2 HP HE HR HC HT HB c0 f0 c1 f1 c2 f2 kc
  have c0 := HQ.out.1.box.cell
  have f0 := HQ.out.1.box.frozen
  go_upto_region 3 with fail
  obtain ⟨w3, hw3⟩ : ∃ w3, w2.setCell ⟨bT, 0, none⟩ (.slice (some ⟨a1, 0, none⟩) 0 a2) = w3 := ⟨_, rfl⟩
  have HZ : Hid (Tx n0 bT [] (.slice (some ⟨a1, 0, none⟩) 0 a2) w3 ∧ Al n0 bA lw (.slice (some ⟨g', 0, none⟩) (N + 1) cap) w3 ∧ Fr (LyS bT bA (.slice (some ⟨a1, 0, none⟩) (K + 1) a2) (.slice b1 N b2)) w w3 ∧ (∀ j, j < w.heap.size → AlS bA (.slice (some ⟨g', 0, none⟩) (N + 1) cap) j → AlS bA (.slice b1 N b2) j)) := by
    obtain ⟨s1, s2, s3, s4⟩ := HQ.out
    have hap2 := apart s1 s2
    have f3 : Fr (On bT) w2 w3 := by rw [← hw3]; exact fr_set bT 0 _ w2
    refine ⟨by rw [← hw3]; exact s1.empty, s2.fr f3 fun k hk q => hap2 k q (.inl hk), (s3.mono fun k _ q => .inr q).trans' f3 fun k _ q => .inl (.inl q), s4⟩
  rw [hw3]
  clear hw3 HQ c0 f0
  have c1 := HZ.out.2.1.box.cell
  have f1 := HZ.out.2.1.box.frozen
  have HR2 : Hid (w3.ownsRow n0 27 4 (.slice (some ⟨g', 0, none⟩) (N + 1) cap) (N + 1) (flatT lw)) := by have := HZ.out.2.1.row; rw [hlN] at this; exact this
  have HB2 : Hid (n0 ≤ w3.heap.size) := Nat.le_trans hn HZ.out.2.2.1.size
  have HE : Hid (Layd n0 bT bA (.slice (some ⟨a1, 0, none⟩) (K + 1) a2) (.slice b1 N b2) lw w (w3.setCell ⟨bA, 0, none⟩ (.slice (some ⟨g', 0, none⟩) (N + 1) cap))) := by
    obtain ⟨s1, s2, s3, s4⟩ := HZ.out
    exact ⟨_, _, s1.fr (fr_set bA 0 _ w3) fun k hk => apart s1 s2 k (.inl hk), s2.keep, s3.trans' (fr_set bA 0 _ w3) fun k hk q => .inr (s4 k hk (.inl q))⟩
  clear HZ hlN
  go_wp2_with (at_builtin; refine wpList_append_own_none rfl (.tmp 15) (.tmp 16) 23 rfl n0 27 i9 4 Try.underlying23 hi9 (.slice (some ⟨g', 0, none⟩) (N + 1) cap) (N + 1) (flatT lw) rfl HR2.out rfl ?_)
  go_end0
  exact ⟨rfl, HE.out⟩
set_option maxHeartbeats 2000000 in
theorem lay_both (ht : Tx n0 bT xs v w) (ha : Al n0 bA l va w) (hn : n0 ≤ w.heap.size) (hl : l.length ≤ 1000000) (hx : xs ≠ []) {g : Nat} {t : Tm} (hs : w.heap[g]? = some (.cells t.cells.toArray 27 (0, 0))) (hg : va.ownBlock ≠ some g) :
    Calls Try.prog 15 #[.slice (some ⟨g, 0, none⟩) 1 1, .pointer (some ⟨bT, 0, none⟩), .pointer (some ⟨bA, 0, none⟩)] w fun e w' => e = .returned (.tuple #[]) ∧ Layd n0 bT bA v va (l ++ [⟨1, xs, 0, 0⟩] ++ [t]) w w' := by
  obtain ⟨i9, hi9, z0, z1, z2⟩ := info_parts infoTm
  have c0 := ht.box.cell
  have f0 := ht.box.frozen
  have c1 := ha.box.cell
  have f1 := ha.box.frozen
  obtain ⟨K, hK⟩ : ∃ K, xs.length = K + 1 := by
    cases xs with
    | nil => exact absurd rfl hx
    | cons a b => exact ⟨b.length, rfl⟩
  have kc := ht.str
  have hrt := ht.row
  rw [hK] at hrt
  obtain ⟨a1, a2, rfl⟩ := ownsRow_succ hrt
  obtain ⟨a4, a3, ea, q1, q2⟩ := owns_form hrt
  injection ea with ea1 ea2 ea
  subst ea
  clear ea1 ea2
  obtain ⟨b1, b2, rfl, q3, q4⟩ := owns_form ha.row
  clear q3 q4
  obtain ⟨N, hN⟩ : ∃ N, l.length = N := ⟨_, rfl⟩
  have hal := ha
  rw [hN] at c1 hl hal ⊢
  rw [hN] at hg
  have hap := apart ht hal
  have HR : Hid ((w.alloc (.cells #[.int .u8 1, .string ⟨xs.toArray⟩, .int .i64 0, .int .u8 0] 27)).ownsRow n0 27 4 (.slice b1 N b2) N (flatT l)) := by rw [← hN]; exact row_kp ha.row (kp_alloc _ _)
  have HB : Hid (n0 ≤ (w.alloc (.cells #[.int .u8 1, .string ⟨xs.toArray⟩, .int .i64 0, .int .u8 0] 27)).heap.size) := by rw [alloc_size]; exact Nat.le_succ_of_le hn
  have HC : Hid _ := tm_news (t := ⟨1, xs, 0, 0⟩) (alloc_new w (.cells #[.int .u8 1, .string ⟨xs.toArray⟩, .int .i64 0, .int .u8 0] 27))
  have HT : Hid _ := tm_one ⟨1, xs, 0, 0⟩
  have HE : Hid (∀ g' cap w1, w1.ownsRow n0 27 4 (.slice (some ⟨g', 0, none⟩) (N + 1) cap) (N + 1) (flatT l ++ Tm.cells ⟨1, xs, 0, 0⟩) → (w.alloc (.cells #[.int .u8 1, .string ⟨xs.toArray⟩, .int .i64 0, .int .u8 0] 27)).grownBy w1 (Value.slice b1 N b2).ownBlock → ((Value.slice b1 N b2).ownBlock = some g' ∨ g' = w.heap.size + 1) →
      (w1.cell? ⟨bA, 0, none⟩ = some (.slice b1 N b2) ∧ w1.frozen? ⟨bA, 0, none⟩ = false) ∧ (∀ w2, w2 = w1.setCell ⟨bA, 0, none⟩ (.slice (some ⟨g', 0, none⟩) (N + 1) cap) → Hid (Tx n0 bT xs (.slice (some ⟨a1, 0, none⟩) (K + 1) a2) w2 ∧ Al n0 bA (l ++ [⟨1, xs, 0, 0⟩]) (.slice (some ⟨g', 0, none⟩) (N + 1) cap) w2 ∧ Fr (AlS bA (.slice b1 N b2)) w w2 ∧ (∀ j, j < w.heap.size → AlS bA (.slice (some ⟨g', 0, none⟩) (N + 1) cap) j → AlS bA (.slice b1 N b2) j) ∧ w2.heap[g]? = some (.cells t.cells.toArray 27 (0, 0)) ∧ g ≠ bA ∧ g < w.heap.size))) := by
    intro g' cap w1 r1 r2 r3
    rw [← hN] at r1
    obtain ⟨p1, p2, p3, p4⟩ := hal.more (t := ⟨1, xs, 0, 0⟩) (kp_alloc _ _) r1 r2 (by rw [alloc_size]; exact r3)
    rw [hN] at p2 p3 p4
    refine ⟨p1, fun w2 e => ?_⟩
    subst e
    refine ⟨?_, p2, p3, p4, ?_, ?_, (Array.getElem?_eq_some_iff.1 hs).1⟩
    · exact ht.fr p3 hap
    · rw [p3.block g (Array.getElem?_eq_some_iff.1 hs).1 fun q => ?_]
      · exact hs
      · rcases q with rfl | q
        · have := ha.box
          unfold Boxed at this
          rw [hs] at this; simp [Tm.cells] at this
        · exact hg q
    · rintro rfl
      have := ha.box
      unfold Boxed at this
      rw [hs] at this; simp [Tm.cells] at this
  obtain ⟨lw, hlw⟩ : ∃ lw, l ++ [⟨1, xs, 0, 0⟩] = lw := ⟨_, rfl⟩
  have hlN : lw.length = N + 1 := by rw [← hlw, List.length_append, hN]; rfl
  rw [hlw] at HE ⊢
  clear ht ha hal hN hap hrt hx hlw hs hg
  have dK : decide ((K : Int) + 1 > 0) = true := decide_eq_true (by omega)
  unfold maxLen at q2
  clear hK
  go_enter Try.func15, Try.ntmps15
  go_upto_region 2 with (at_builtin; refine wpList_append_lies _ rfl (.tmp 7) (.tmp 11) 23 rfl n0 27 i9 _ 4 40 Try.underlying23 hi9 z0 z1 z2 rfl (by decide) (.slice b1 N b2) N (flatT l) rfl HR.out ⟨w.heap.size, 0, none⟩ 1 1 (Tm.cells ⟨1, xs, 0, 0⟩) rfl rfl HC.out HT.out (by omega) (by unfold maxLen; omega) (by omega) HB.out (w.heap.size + 1) (alloc_size _ _) ?_; intro g' cap w1 r1 r2 r3 r4; obtain ⟨⟨c2, f2⟩, HP⟩ := HE.out g' cap w1 r1 r2 r3; clear r1 r2 r3 r4)
  obtain ⟨w2, hw2⟩ : ∃ w2, w1.setCell ⟨bA, 0, none⟩ (.slice (some ⟨g', 0, none⟩) (N + 1) cap) = w2 := ⟨_, rfl⟩
  have HQ := HP w2 hw2.symm
  rw [hw2]
  clear hw2 HP HE HR HC HT HB c0 f0 c1 f1 c2 f2 kc
  have c0 := HQ.out.1.box.cell
  have f0 := HQ.out.1.box.frozen
  go_upto_region 3 with fail
  obtain ⟨w3, hw3⟩ : ∃ w3, w2.setCell ⟨bT, 0, none⟩ (.slice (some ⟨a1, 0, none⟩) 0 a2) = w3 := ⟨_, rfl⟩
  have HZ : Hid (Tx n0 bT [] (.slice (some ⟨a1, 0, none⟩) 0 a2) w3 ∧ Al n0 bA lw (.slice (some ⟨g', 0, none⟩) (N + 1) cap) w3 ∧ Fr (LyS bT bA (.slice (some ⟨a1, 0, none⟩) (K + 1) a2) (.slice b1 N b2)) w w3 ∧ (∀ j, j < w.heap.size → AlS bA (.slice (some ⟨g', 0, none⟩) (N + 1) cap) j → AlS bA (.slice b1 N b2) j) ∧ w3.heap[g]? = some (.cells t.cells.toArray 27 (0, 0))) := by
    obtain ⟨s1, s2, s3, s4, s5, s6, s7⟩ := HQ.out
    have hap2 := apart s1 s2
    have f3 : Fr (On bT) w2 w3 := by rw [← hw3]; exact fr_set bT 0 _ w2
    refine ⟨by rw [← hw3]; exact s1.empty, s2.fr f3 fun k hk q => hap2 k q (.inl hk), (s3.mono fun k _ q => .inr q).trans' f3 fun k _ q => .inl (.inl q), s4, ?_⟩
    rw [f3.block g (Array.getElem?_eq_some_iff.1 s5).1 fun q => ?_]
    · exact s5
    · unfold On at q
      subst q
      have := s1.box
      unfold Boxed at this
      rw [s5] at this; simp [Tm.cells] at this
  rw [hw3]
  clear hw3 HQ c0 f0
  have c1 := HZ.out.2.1.box.cell
  have f1 := HZ.out.2.1.box.frozen
  have HR2 : Hid (w3.ownsRow n0 27 4 (.slice (some ⟨g', 0, none⟩) (N + 1) cap) (N + 1) (flatT lw)) := by have := HZ.out.2.1.row; rw [hlN] at this; exact this
  have HB2 : Hid (n0 ≤ w3.heap.size) := Nat.le_trans hn HZ.out.2.2.1.size
  have HE : Hid (∀ g2 cap2 w4, w4.ownsRow n0 27 4 (.slice (some ⟨g2, 0, none⟩) (N + 1 + 1) cap2) (N + 1 + 1) (flatT lw ++ t.cells) → w3.grownBy w4 (Value.slice (some ⟨g', 0, none⟩) (N + 1) cap).ownBlock → ((Value.slice (some ⟨g', 0, none⟩) (N + 1) cap).ownBlock = some g2 ∨ g2 = w3.heap.size) →
      (w4.cell? ⟨bA, 0, none⟩ = some (.slice (some ⟨g', 0, none⟩) (N + 1) cap) ∧ w4.frozen? ⟨bA, 0, none⟩ = false) ∧ Hid (Layd n0 bT bA (.slice (some ⟨a1, 0, none⟩) (K + 1) a2) (.slice b1 N b2) (lw ++ [t]) w (w4.setCell ⟨bA, 0, none⟩ (.slice (some ⟨g2, 0, none⟩) (N + 1 + 1) cap2)))) := by
    intro g2 cap2 w4 r1 r2 r3
    rw [← hlN] at r1
    obtain ⟨s1, s2, s3, s4, s5⟩ := HZ.out
    obtain ⟨p1, p2, p3, p4⟩ := s2.more (Below.refl _ _) r1 r2 r3
    rw [hlN] at p2 p3
    exact ⟨p1, ⟨_, _, s1.fr p3 (apart s1 s2), p2, s3.trans' p3 fun k hk q => .inr (s4 k hk q)⟩⟩
  have HC : Hid _ := tm_news HZ.out.2.2.2.2
  have HT : Hid _ := tm_one t
  clear HZ hlN
  go_wp2_with (at_builtin; refine wpList_append_lies _ rfl (.tmp 15) (.tmp 16) 23 rfl n0 27 i9 _ 4 40 Try.underlying23 hi9 z0 z1 z2 rfl (by decide) (.slice (some ⟨g', 0, none⟩) (N + 1) cap) (N + 1) (flatT lw) rfl HR2.out ⟨g, 0, none⟩ 1 1 t.cells rfl rfl HC.out HT.out (by omega) (by unfold maxLen; omega) (by omega) HB2.out w3.heap.size rfl ?_; intro g2 cap2 w4 r1 r2 r3 r4; obtain ⟨⟨c2, f2⟩, HP⟩ := HE.out g2 cap2 w4 r1 r2 r3; clear r1 r2 r3 r4)
  go_end0
  exact ⟨rfl, HP.out⟩
end
end Go.Proofs.Ytbeaoonddlfcgaa
/- Parse. -/
namespace Go.Proofs.Ytbeaoonddlfcgaa
open Go.ChangeShapes Go.WideShapes Go.ChangeAt Go.RowKit Go.Shelf
set_option linter.unusedVariables false
set_option linter.unusedSimpArgs false
attribute [local go_sem] Oper.semAt_some
def stepP (st : List Tm × List UInt8) (p : UInt8 × Bool) : List Tm × List UInt8 :=
  match pieceF p with
  | some t => (layF st.2 st.1 ++ [t], [])
  | none => (st.1, st.2 ++ [byteF p])
def parL (l : List (UInt8 × Bool)) : List Tm × List UInt8 := l.foldl stepP ([], [])
/-- The pieces of a replacement. -/
def parseF (s : List UInt8) : List Tm := layF (parL (sgns s)).2 (parL (sgns s)).1
theorem parL_snoc (l : List (UInt8 × Bool)) (p : UInt8 × Bool) : parL (l ++ [p]) = stepP (parL l) p := by simp [parL]
theorem layF_len (xs : List UInt8) (l : List Tm) : (layF xs l).length ≤ l.length + (if xs = [] then 0 else 1) := by
  unfold layF; split <;> simp
theorem stepP_len (st : List Tm × List UInt8) (p : UInt8 × Bool) : (stepP st p).1.length + (stepP st p).2.length ≤ st.1.length + st.2.length + 1 := by
  unfold stepP
  split
  · have := layF_len st.2 st.1
    have h2 : (if st.2 = [] then 0 else 1) ≤ st.2.length := by
      split
      · exact Nat.zero_le _
      · rename_i h; exact List.length_pos_iff.2 h
    simp only [List.length_append, List.length_cons, List.length_nil]; omega
  · simp only [List.length_append, List.length_cons, List.length_nil]; omega
theorem fold_len (l : List (UInt8 × Bool)) (st : List Tm × List UInt8) : (l.foldl stepP st).1.length + (l.foldl stepP st).2.length ≤ st.1.length + st.2.length + l.length := by
  induction l generalizing st with
  | nil => simp
  | cons p l ih =>
    have h1 := ih (stepP st p)
    have h2 := stepP_len st p
    simp only [List.foldl_cons, List.length_cons]; omega
theorem parL_len (l : List (UInt8 × Bool)) : (parL l).1.length + (parL l).2.length ≤ l.length := by
  have := fold_len l ([], [])
  simpa [parL] using this
theorem parseF_len (s : List UInt8) : (parseF s).length ≤ s.length := by
  have h1 := parL_len (sgns s)
  have h2 := sgns_len s
  have h3 := layF_len (parL (sgns s)).2 (parL (sgns s)).1
  have h4 : (if (parL (sgns s)).2 = [] then 0 else 1) ≤ (parL (sgns s)).2.length := by
    split
    · exact Nat.zero_le _
    · rename_i h; exact List.length_pos_iff.2 h
  unfold parseF; omega
section
variable {n0 bT bA : Nat} {xs : List UInt8} {l : List Tm} {v va : Value} {w : World}
theorem lay_nil (ht : Tx n0 bT xs v w) (ha : Al n0 bA l va w) (hn : n0 ≤ w.heap.size) (hl : l.length ≤ 1000000) :
    Calls Try.prog 15 #[.slice none 0 0, .pointer (some ⟨bT, 0, none⟩), .pointer (some ⟨bA, 0, none⟩)] w fun e w' => e = .returned (.tuple #[]) ∧ Layd n0 bT bA v va (layF xs l) w w' := by
  unfold layF
  by_cases h : xs = []
  · subst h; rw [if_pos rfl]; exact lay_no ht ha hn hl
  · rw [if_neg h]; exact lay_txt ht ha hn hl h
theorem lay_tm (ht : Tx n0 bT xs v w) (ha : Al n0 bA l va w) (hn : n0 ≤ w.heap.size) (hl : l.length ≤ 1000000) {g : Nat} {t : Tm} (hs : w.heap[g]? = some (.cells t.cells.toArray 27 (0, 0))) (hg : va.ownBlock ≠ some g) :
    Calls Try.prog 15 #[.slice (some ⟨g, 0, none⟩) 1 1, .pointer (some ⟨bT, 0, none⟩), .pointer (some ⟨bA, 0, none⟩)] w fun e w' => e = .returned (.tuple #[]) ∧ Layd n0 bT bA v va (layF xs l ++ [t]) w w' := by
  unfold layF
  by_cases h : xs = []
  · subst h; rw [if_pos rfl]; exact lay_one ht ha hn hl hs hg
  · rw [if_neg h]; exact lay_both ht ha hn hl h hs hg
end
/-- Parse's memory. -/
structure Ps (w : World) (bA bT bG bL bS : Nat) (S : ByteArray) (st : List Tm × List UInt8) (v va : Value) (W : World) : Prop where
  tx : Tx w.heap.size bT st.2 v W
  al : Al w.heap.size bA st.1 va W
  ga : Boxed W bG 33 (.func (.func 14) #[] #[.pointer (some ⟨bT, 0, none⟩)])
  la : Boxed W bL 34 (.func (.func 15) #[] #[.pointer (some ⟨bT, 0, none⟩), .pointer (some ⟨bA, 0, none⟩)])
  sb : Boxed W bS 9 (.string S)
  kp : Kp w W
section
variable {w : World} {bA bT bG bL bS B : Nat} {S : ByteArray} {st st' : List Tm × List UInt8} {v va v' va' : Value} {W W1 : World}
theorem Ps.ty (h : Ps w bA bT bG bL bS S st v va W) : ∀ k, LyS bT bA v va k → ∃ c e g, W.heap[k]? = some (.cells c e g) ∧ (e = 23 ∨ e = 27 ∨ e = 25 ∨ e = 5) := fun k hk => by
  rcases hk with hk | hk
  · obtain ⟨c, e, g, h1, h2⟩ := h.tx.ty k hk
    exact ⟨c, e, g, h1, .inr (.inr h2)⟩
  · obtain ⟨c, e, g, h1, h2⟩ := h.al.cells k hk
    refine ⟨c, e, g, h1, ?_⟩
    rcases h2 with h2 | h2
    · exact .inl h2
    · exact .inr (.inl h2)
theorem Ps.off (h : Ps w bA bT bG bL bS S st v va W) {b : Nat} {t : TypeId} {u : Value} (hb : Boxed W b t u) (ht : t ≠ 23 ∧ t ≠ 27 ∧ t ≠ 25 ∧ t ≠ 5) : ¬ LyS bT bA v va b := fun q => by
  obtain ⟨c, e, g, h1, h2⟩ := h.ty b q
  unfold Boxed at hb
  rw [hb] at h1
  simp only [Option.some.injEq, Obj.cells.injEq] at h1
  obtain ⟨_, rfl, _⟩ := h1
  rcases h2 with h2 | h2 | h2 | h2
  · exact ht.1 h2
  · exact ht.2.1 h2
  · exact ht.2.2.1 h2
  · exact ht.2.2.2 h2
theorem Ps.from (h : Ps w bA bT bG bL bS S st v va W) : ∀ k, LyS bT bA v va k → w.heap.size ≤ k := fun k hk => by
  rcases hk with hk | hk
  · exact h.tx.from k hk
  · exact h.al.from k hk
theorem Ps.more (h : Ps w bA bT bG bL bS S st v va W) (ht : Tx w.heap.size bT st'.2 v' W1) (ha : Al w.heap.size bA st'.1 va' W1) (f : Fr (LyS bT bA v va) W W1) : Ps w bA bT bG bL bS S st' v' va' W1 :=
  ⟨ht, ha, bx_fr h.ga f (h.off h.ga (by decide)), bx_fr h.la f (h.off h.la (by decide)), bx_fr h.sb f (h.off h.sb (by decide)), h.kp.trans (f.below h.kp.size fun k hk q => by have := h.from k q; omega)⟩
theorem Ps.kpW (h : Ps w bA bT bG bL bS S st v va W) (k : Kp W W1) : Ps w bA bT bG bL bS S st v va W1 :=
  ⟨h.tx.kp k, h.al.kp k, bx_kp h.ga k, bx_kp h.la k, bx_kp h.sb k, kp_trans h.kp k⟩
theorem Ps.own {row : Option Nat} (h : Ps w bA bT bG bL bS S st v va W) (hg : W.grownBy W1 row) (hr : ∀ r, row = some r → B ≤ r ∧ ∃ o : Obj, W.heap[r]? = some o ∧ o.isCells = false) (hB : w.heap.size ≤ B) : Ps w bA bT bG bL bS S st v va W1 := by
  have f : Fr (fun k => row = some k) W W1 := ⟨hg.os, hg.tape, hg.output, hg.size, fun k hk q => hg.block k hk fun e => q e.symm⟩
  have nc : ∀ {j c e g}, W.heap[j]? = some (.cells c e g) → row ≠ some j := fun hj q => by
    obtain ⟨_, o, ho, hc⟩ := hr _ q
    rw [hj] at ho
    injection ho with ho
    rw [← ho] at hc; cases hc
  refine ⟨h.tx.fr f fun k hk q => ?_, h.al.fr f fun k hk q => ?_, bx_fr h.ga f (nc h.ga), bx_fr h.la f (nc h.la), bx_fr h.sb f (nc h.sb), h.kp.trans (f.below h.kp.size fun k hk q => by have := (hr k q).1; omega)⟩
  · obtain ⟨c, e, g, hc, _⟩ := h.tx.ty k q
    exact nc hc hk
  · obtain ⟨c, e, g, hc, _⟩ := h.al.cells k q
    exact nc hc hk
end
def parW (w : World) (S : ByteArray) : World :=
  ((((w.alloc (.cells #[.slice none 0 0] 23)).alloc (.cells #[.slice none 0 0] 25)).alloc (.cells #[.func (.func 14) #[] #[.pointer (some ⟨w.heap.size + 1, 0, none⟩)]] 33)).alloc
    (.cells #[.func (.func 15) #[] #[.pointer (some ⟨w.heap.size + 1, 0, none⟩), .pointer (some ⟨w.heap.size, 0, none⟩)]] 34)).alloc (.cells #[.string S] 9)
theorem parW_size (w : World) (S : ByteArray) : (parW w S).heap.size = w.heap.size + 5 := by
  unfold parW; rw [alloc_size, alloc_size, alloc_size, alloc_size, alloc_size]
theorem ps_start (w : World) (S : ByteArray) : Ps w w.heap.size (w.heap.size + 1) (w.heap.size + 1 + 1) (w.heap.size + 1 + 1 + 1) (w.heap.size + 1 + 1 + 1 + 1) S ([], []) (.slice none 0 0) (.slice none 0 0) (parW w S) := by
  obtain ⟨w1, h1⟩ : ∃ w1, w.alloc (.cells #[.slice none 0 0] 23) = w1 := ⟨_, rfl⟩
  have t1 := Al.nil w.heap.size w (Nat.le_refl _)
  have k1 := kp_alloc w (.cells #[.slice none 0 0] 23)
  have z1 := alloc_size w (.cells #[.slice none 0 0] 23)
  rw [h1] at t1 k1 z1
  obtain ⟨w2, h2⟩ : ∃ w2, w1.alloc (.cells #[.slice none 0 0] 25) = w2 := ⟨_, rfl⟩
  have t2 := Tx.nil w.heap.size w1 (by omega)
  have k2 := kp_alloc w1 (.cells #[.slice none 0 0] 25)
  have z2 := alloc_size w1 (.cells #[.slice none 0 0] 25)
  rw [h2] at t2 k2 z2
  obtain ⟨w3, h3⟩ : ∃ w3, w2.alloc (.cells #[.func (.func 14) #[] #[.pointer (some ⟨w.heap.size + 1, 0, none⟩)]] 33) = w3 := ⟨_, rfl⟩
  have b3 := Boxed.new w2 33 (.func (.func 14) #[] #[.pointer (some ⟨w.heap.size + 1, 0, none⟩)])
  have k3 := kp_alloc w2 (.cells #[.func (.func 14) #[] #[.pointer (some ⟨w.heap.size + 1, 0, none⟩)]] 33)
  have z3 := alloc_size w2 (.cells #[.func (.func 14) #[] #[.pointer (some ⟨w.heap.size + 1, 0, none⟩)]] 33)
  rw [h3] at b3 k3 z3
  obtain ⟨w4, h4⟩ : ∃ w4, w3.alloc (.cells #[.func (.func 15) #[] #[.pointer (some ⟨w.heap.size + 1, 0, none⟩), .pointer (some ⟨w.heap.size, 0, none⟩)]] 34) = w4 := ⟨_, rfl⟩
  have b4 := Boxed.new w3 34 (.func (.func 15) #[] #[.pointer (some ⟨w.heap.size + 1, 0, none⟩), .pointer (some ⟨w.heap.size, 0, none⟩)])
  have k4 := kp_alloc w3 (.cells #[.func (.func 15) #[] #[.pointer (some ⟨w.heap.size + 1, 0, none⟩), .pointer (some ⟨w.heap.size, 0, none⟩)]] 34)
  have z4 := alloc_size w3 (.cells #[.func (.func 15) #[] #[.pointer (some ⟨w.heap.size + 1, 0, none⟩), .pointer (some ⟨w.heap.size, 0, none⟩)]] 34)
  rw [h4] at b4 k4 z4
  obtain ⟨w5, h5⟩ : ∃ w5, (w4.alloc (.cells #[.string S] 9)) = w5 := ⟨_, rfl⟩
  have b5 := Boxed.new w4 9 (.string S)
  have k5 := kp_alloc w4 (.cells #[.string S] 9)
  rw [h5] at b5 k5
  have e : parW w S = w5 := by unfold parW; rw [h1, h2, h3, h4, h5]
  rw [e]
  have k35 : Kp w3 w5 := kp_trans k4 k5
  refine ⟨?_, t1.kp (kp_trans k2 (kp_trans k3 k35)), ?_, ?_, ?_, kp_trans k1 (kp_trans k2 (kp_trans k3 k35))⟩
  · rw [← z1]; exact t2.kp (kp_trans k3 k35)
  · have := bx_kp b3 k35; rw [z2, z1] at this; exact this
  · have := bx_kp b4 k5; rw [z3, z2, z1] at this; exact this
  · rw [z4, z3, z2, z1] at b5; exact b5
end Go.Proofs.Ytbeaoonddlfcgaa
/- Parse: the walk. -/
namespace Go.Proofs.Ytbeaoonddlfcgaa
open Go.ChangeShapes Go.WideShapes Go.ChangeAt Go.RowKit Go.Shelf
set_option linter.unusedVariables false
set_option linter.unusedSimpArgs false
attribute [local go_sem] Oper.semAt_some
set_option maxHeartbeats 4000000 in
set_option maxRecDepth 100000 in
theorem parse_any (S : ByteArray) (hS : S.size ≤ 2000) (w : World) : Calls Try.prog 9 #[.string S] w fun e w' => (∃ v, e = .returned v ∧ w'.ownsRow w.heap.size 27 4 v (parseF S.data.toList).length (flatT (parseF S.data.toList))) ∧ Kp w w' := by
  have hmf : ∀ (fn : Fn) (first cap : Array Value) (w : World), (Instr.makeFunc fn first cap).run Try.prog w = .ok (.func fn first cap) w := fun _ _ _ _ => rfl
  refine (callsIn_wide (n := 4)).1 ?_
  refine callsIn_of_wp_marks Try.func9 rfl trivial ?_ rfl
  simp only [Try.ntmps9, List.size_toArray, List.length_cons, List.length_nil, Nat.reduceAdd, Nat.reduceSub, Array.replicate_succ, Array.replicate_zero, List.push_toArray, List.append_toArray, List.nil_append, List.cons_append]
  refine wpIn_wide.2 ?_
  go_wp2_with fail
  refine (signs_any S _).mono ?_
  rintro e w1 ⟨rfl, rfl⟩
  go_wp2_with fail
  have HS : Hid _ := ps_start w S
  have hz := parW_size w S
  unfold parW at HS hz
  generalize ((((w.alloc (.cells #[.slice none 0 0] 23)).alloc (.cells #[.slice none 0 0] 25)).alloc (.cells #[.func (.func 14) #[] #[.pointer (some ⟨w.heap.size + 1, 0, none⟩)]] 33)).alloc
    (.cells #[.func (.func 15) #[] #[.pointer (some ⟨w.heap.size + 1, 0, none⟩), .pointer (some ⟨w.heap.size, 0, none⟩)]] 34)).alloc (.cells #[.string S] 9) = W0 at HS hz ⊢
  have HSQ : Hid _ := signs_seq Fence.wide 3 trivial rfl (by omega) (w.heap.size + 1 + 1 + 1 + 1) w.heap.size S (by omega) HS.out.sb
  refine (wpIn_wide (n := 4)).1 (wpIn_rangeFunc_ownG rfl (by omega) (gf := 22) (lb := #[.pointer (some ⟨w.heap.size + 1 + 1 + 1 + 1, 0, none⟩)]) rfl trivial (enters_of Try.func22 (by kernel_rfl) rfl)
    HSQ.out Kpb.trans (fun W l o o' hl _ _ _ => Kpb.put (by omega) (by omega)) (Below.refl _ _) (fun _ => rfl)
    (fun pre W => ∃ v va, Ps w w.heap.size (w.heap.size + 1) (w.heap.size + 1 + 1) (w.heap.size + 1 + 1 + 1) (w.heap.size + 1 + 1 + 1 + 1) S (parL pre) v va W) (fun _ _ _ => False)
    (fun s A B row hs hg hr => by obtain ⟨v, va, hs⟩ := hs; exact ⟨v, va, hs.own hg hr (by omega)⟩)
    (fun _ _ _ _ _ hs _ _ => hs) ⟨_, _, HS.out⟩
    (fun p => { tmps := #[.string S, undef, .slice none 0 0, .pointer (some ⟨w.heap.size, 0, none⟩), .pointer (some ⟨w.heap.size + 1, 0, none⟩), .pointer (some ⟨w.heap.size + 1 + 1, 0, none⟩), .pointer (some ⟨w.heap.size + 1 + 1 + 1, 0, none⟩), .int .u8 p.1.toNat, .bool p.2, undef, undef, .func (.func 14) #[] #[.pointer (some ⟨w.heap.size + 1, 0, none⟩)], .func (.func 15) #[] #[.pointer (some ⟨w.heap.size + 1, 0, none⟩), .pointer (some ⟨w.heap.size, 0, none⟩)], .string S, .func (.func 22) #[] #[.pointer (some ⟨w.heap.size + 1 + 1 + 1 + 1, 0, none⟩)], .int .u8 p.1.toNat, .bool p.2,
      undef, undef, undef, undef, undef, undef, undef, undef, undef, undef, undef, undef, undef, undef, undef, undef, undef, undef, undef], defers := [] }) ?assign ?body ?done ?stop)
  case assign =>
    intro l p W K hK
    gi_wp2
    exact hK
  case body =>
    rintro l pre p W ⟨v, va, hP⟩ hpre
    have hpl := parL_len pre
    have hsl := sgns_len S.data.toList
    have hs2 : S.data.toList.length ≤ 2000 := by simpa using hS
    have HE : Hid (∀ W' v' va', Tx w.heap.size (w.heap.size + 1) (stepP (parL pre) p).2 v' W' → Al w.heap.size w.heap.size (stepP (parL pre) p).1 va' W' → Fr (LyS (w.heap.size + 1) w.heap.size v va) W W' → KeepsFrom W0.heap.size W W' ∧ Kpb w.heap.size (w.heap.size + 1 + 1 + 1 + 1) W W' ∧ ∃ v va, Ps w w.heap.size (w.heap.size + 1) (w.heap.size + 1 + 1) (w.heap.size + 1 + 1 + 1) (w.heap.size + 1 + 1 + 1 + 1) S (parL (pre ++ [p])) v va W') := by
      intro W' v' va' ht ha f
      rw [← parL_snoc] at ht ha
      refine ⟨keepsFrom_of_fr _ f fun k hk => ?_, Kpb.of_fr f fun k hk => ⟨hP.from k hk, fun e => ?_⟩, v', va', hP.more ht ha f⟩
      · obtain ⟨c, e, g, hc, _⟩ := hP.ty k hk
        exact ⟨c, e, g, hc⟩
      · rw [e] at hk
        exact hP.off hP.sb (by decide) hk
    have HP : Hid (Ps w w.heap.size (w.heap.size + 1) (w.heap.size + 1 + 1) (w.heap.size + 1 + 1 + 1) (w.heap.size + 1 + 1 + 1 + 1) S (parL pre) v va W) := hP
    obtain ⟨st, hst⟩ : ∃ st, parL pre = st := ⟨_, rfl⟩
    rw [hst] at HE HP hpl
    clear hP HSQ HS hst
    gi_wp2
    refine ⟨trivial, (CallsIn.inRound l (callsIn_wide.2 (pieceOf_any p W))).mono ?_⟩
    rintro e W1 ⟨rfl, k1⟩
    have HP1 : Hid (Ps w w.heap.size (w.heap.size + 1) (w.heap.size + 1 + 1) (w.heap.size + 1 + 1 + 1) (w.heap.size + 1 + 1 + 1 + 1) S st v va W1 ∧ Kp W W1) := ⟨HP.out.kpW k1, k1⟩
    clear k1
    unfold stepP at HE
    cases hp : pieceF p with
    | some t =>
      simp only [hp, Option.getD_some, Option.isSome_some, Tm.val] at HE ⊢
      have cL := (bx_kp HP1.out.1.la (kp_alloc W1 (.cells #[.int .u8 t.kd, .string ⟨t.tx.toArray⟩, .int .i64 t.n, .int .u8 t.c] 27))).cell
      have HP2 : Hid (Ps w w.heap.size (w.heap.size + 1) (w.heap.size + 1 + 1) (w.heap.size + 1 + 1 + 1) (w.heap.size + 1 + 1 + 1 + 1) S st v va ((W1.alloc (.cells #[.int .u8 t.kd, .string ⟨t.tx.toArray⟩, .int .i64 t.n, .int .u8 t.c] 27)).alloc (.cells #[.int .u8 t.kd, .string ⟨t.tx.toArray⟩, .int .i64 t.n, .int .u8 t.c] 27))) := HP1.out.1.kpW (kp_trans (kp_alloc W1 (.cells #[.int .u8 t.kd, .string ⟨t.tx.toArray⟩, .int .i64 t.n, .int .u8 t.c] 27)) (kp_alloc _ (.cells #[.int .u8 t.kd, .string ⟨t.tx.toArray⟩, .int .i64 t.n, .int .u8 t.c] 27)))
      have hs := alloc_new (W1.alloc (.cells #[.int .u8 t.kd, .string ⟨t.tx.toArray⟩, .int .i64 t.n, .int .u8 t.c] 27)) (.cells #[.int .u8 t.kd, .string ⟨t.tx.toArray⟩, .int .i64 t.n, .int .u8 t.c] 27)
      rw [alloc_size] at hs
      have HL : Hid _ := lay_tm (t := t) HP2.out.tx HP2.out.al HP2.out.kp.size (by omega) hs (fun q => by have := (HP1.out.1.al.row.lt _ q).2; omega)
      clear hs
      gi_wp2
      refine ⟨trivial, (CallsIn.inRound l (callsIn_wide.2 HL.out)).mono ?_⟩
      rintro e W2 ⟨rfl, v', va', q1, q2, q3⟩
      have HF : Hid _ := HE.out _ _ _ q1 q2 (((Fr.of_below HP1.out.2).trans (Fr.of_below (kp_trans (kp_alloc _ _) (kp_alloc _ _)))).trans q3)
      clear q1 q2 q3
      gi_wp2
      exact HF.out
    | none =>
      simp only [hp, Option.getD_none, Option.isSome_none, Tm.val, tm0] at HE ⊢
      gi_wp2
      obtain ⟨W2, hW2⟩ : ∃ W2, W1.alloc (.cells #[.int .u8 0, .string ⟨#[]⟩, .int .i64 0, .int .u8 0] 27) = W2 := ⟨_, rfl⟩
      have HP2 : Hid (Ps w w.heap.size (w.heap.size + 1) (w.heap.size + 1 + 1) (w.heap.size + 1 + 1 + 1) (w.heap.size + 1 + 1 + 1 + 1) S st v va W2.drew ∧ Kp W W2.drew) := by
        have k : Kp W1 W2.drew := by rw [← hW2]; exact kp_trans (kp_alloc _ _) (kp_drew _)
        exact ⟨HP1.out.1.kpW k, kp_trans HP1.out.2 k⟩
      have HG : Hid _ := gatherP_any HP2.out.1.tx HP2.out.1.kp.size (byteF p) (by omega)
      have cG := HP2.out.1.ga.cell
      have HH : Hid (∀ W3 v', Tx w.heap.size (w.heap.size + 1) (st.2 ++ [byteF p]) v' W3 → Fr (TxS (w.heap.size + 1) v) W2.drew W3 → KeepsFrom W0.heap.size W W3 ∧ Kpb w.heap.size (w.heap.size + 1 + 1 + 1 + 1) W W3 ∧ ∃ v va, Ps w w.heap.size (w.heap.size + 1) (w.heap.size + 1 + 1) (w.heap.size + 1 + 1 + 1) (w.heap.size + 1 + 1 + 1 + 1) S (parL (pre ++ [p])) v va W3) := by
        intro W3 v' q1 q2
        exact HE.out _ _ _ q1 (HP2.out.1.al.fr q2 fun k hk q => apart HP2.out.1.tx HP2.out.1.al k q hk) ((Fr.of_below HP2.out.2).trans (q2.mono fun k _ q => .inl q))
      rw [hW2]
      clear HE HP HP1 HP2 hW2
      refine wpIn_region_any (by kernel_rfl) ?_
      change wpAnyIn _ _ _ _ _ _ _ _ _ (World.drew _)
      refine wpAnyIn_ready (rs := [0, 1, 2]) (by kernel_rfl) (by simp) ?_
      refine AllReadyIn.cons rfl (fun K hK => ?_) ?_
      · go_simp
        refine hK _ _ ?_
        clear hK K
        refine wpAnyIn_ready (rs := [1, 2]) (by kernel_rfl) (by simp) ?_
        refine AllReadyIn.cons rfl (fun K hK => ?_) ?_
        · go_simp
          refine hK _ _ ?_
          clear hK K
          refine wpAnyIn_ready (rs := [2]) (by kernel_rfl) (by simp) ?_
          refine AllReadyIn.cons rfl (fun K hK => ?_) ?_
          · go_simp
            refine hK _ _ ?_
            clear hK K
            refine wpAnyIn_ready (rs := [3]) (by kernel_rfl) (by simp) ?_
            refine AllReadyIn.cons rfl (fun K hK => ?_) ?_
            · go_simp
              refine ⟨trivial, (CallsIn.inRound l (callsIn_wide.2 (byteOf_any p _))).mono ?_⟩
              rintro e W3 ⟨rfl, rfl⟩
              refine hK _ _ ?_
              clear hK K
              refine wpAnyIn_ready (rs := [4]) (by kernel_rfl) (by simp) ?_
              refine AllReadyIn.cons rfl (fun K hK => ?_) ?_
              · go_simp
                refine ⟨trivial, (CallsIn.inRound l (callsIn_wide.2 HG.out)).mono ?_⟩
                rintro e W3 ⟨rfl, v', q1, q2⟩
                refine hK _ _ ?_
                refine wpAnyIn_done (by kernel_rfl) ?_ _
                exact HH.out _ _ q1 q2
              exact AllReadyIn.nil
            exact AllReadyIn.nil
          exact AllReadyIn.nil
        refine AllReadyIn.cons rfl (fun K hK => ?_) ?_
        · go_simp
          refine hK _ _ ?_
          clear hK K
          refine wpAnyIn_ready (rs := [1]) (by kernel_rfl) (by simp) ?_
          refine AllReadyIn.cons rfl (fun K hK => ?_) ?_
          · go_simp
            refine hK _ _ ?_
            clear hK K
            refine wpAnyIn_ready (rs := [3]) (by kernel_rfl) (by simp) ?_
            refine AllReadyIn.cons rfl (fun K hK => ?_) ?_
            · go_simp
              refine ⟨trivial, (CallsIn.inRound l (callsIn_wide.2 (byteOf_any p _))).mono ?_⟩
              rintro e W3 ⟨rfl, rfl⟩
              refine hK _ _ ?_
              clear hK K
              refine wpAnyIn_ready (rs := [4]) (by kernel_rfl) (by simp) ?_
              refine AllReadyIn.cons rfl (fun K hK => ?_) ?_
              · go_simp
                refine ⟨trivial, (CallsIn.inRound l (callsIn_wide.2 HG.out)).mono ?_⟩
                rintro e W3 ⟨rfl, v', q1, q2⟩
                refine hK _ _ ?_
                refine wpAnyIn_done (by kernel_rfl) ?_ _
                exact HH.out _ _ q1 q2
              exact AllReadyIn.nil
            exact AllReadyIn.nil
          exact AllReadyIn.nil
        exact AllReadyIn.nil
      refine AllReadyIn.cons rfl (fun K hK => ?_) ?_
      · go_simp
        refine hK _ _ ?_
        clear hK K
        refine wpAnyIn_ready (rs := [0, 2]) (by kernel_rfl) (by simp) ?_
        refine AllReadyIn.cons rfl (fun K hK => ?_) ?_
        · go_simp
          refine hK _ _ ?_
          clear hK K
          refine wpAnyIn_ready (rs := [2]) (by kernel_rfl) (by simp) ?_
          refine AllReadyIn.cons rfl (fun K hK => ?_) ?_
          · go_simp
            refine hK _ _ ?_
            clear hK K
            refine wpAnyIn_ready (rs := [3]) (by kernel_rfl) (by simp) ?_
            refine AllReadyIn.cons rfl (fun K hK => ?_) ?_
            · go_simp
              refine ⟨trivial, (CallsIn.inRound l (callsIn_wide.2 (byteOf_any p _))).mono ?_⟩
              rintro e W3 ⟨rfl, rfl⟩
              refine hK _ _ ?_
              clear hK K
              refine wpAnyIn_ready (rs := [4]) (by kernel_rfl) (by simp) ?_
              refine AllReadyIn.cons rfl (fun K hK => ?_) ?_
              · go_simp
                refine ⟨trivial, (CallsIn.inRound l (callsIn_wide.2 HG.out)).mono ?_⟩
                rintro e W3 ⟨rfl, v', q1, q2⟩
                refine hK _ _ ?_
                refine wpAnyIn_done (by kernel_rfl) ?_ _
                exact HH.out _ _ q1 q2
              exact AllReadyIn.nil
            exact AllReadyIn.nil
          exact AllReadyIn.nil
        refine AllReadyIn.cons rfl (fun K hK => ?_) ?_
        · go_simp
          refine hK _ _ ?_
          clear hK K
          refine wpAnyIn_ready (rs := [0, 3]) (by kernel_rfl) (by simp) ?_
          refine AllReadyIn.cons rfl (fun K hK => ?_) ?_
          · go_simp
            refine hK _ _ ?_
            clear hK K
            refine wpAnyIn_ready (rs := [3]) (by kernel_rfl) (by simp) ?_
            refine AllReadyIn.cons rfl (fun K hK => ?_) ?_
            · go_simp
              refine ⟨trivial, (CallsIn.inRound l (callsIn_wide.2 (byteOf_any p _))).mono ?_⟩
              rintro e W3 ⟨rfl, rfl⟩
              refine hK _ _ ?_
              clear hK K
              refine wpAnyIn_ready (rs := [4]) (by kernel_rfl) (by simp) ?_
              refine AllReadyIn.cons rfl (fun K hK => ?_) ?_
              · go_simp
                refine ⟨trivial, (CallsIn.inRound l (callsIn_wide.2 HG.out)).mono ?_⟩
                rintro e W3 ⟨rfl, v', q1, q2⟩
                refine hK _ _ ?_
                refine wpAnyIn_done (by kernel_rfl) ?_ _
                exact HH.out _ _ q1 q2
              exact AllReadyIn.nil
            exact AllReadyIn.nil
          refine AllReadyIn.cons rfl (fun K hK => ?_) ?_
          · go_simp
            refine ⟨trivial, (CallsIn.inRound l (callsIn_wide.2 (byteOf_any p _))).mono ?_⟩
            rintro e W3 ⟨rfl, rfl⟩
            refine hK _ _ ?_
            clear hK K
            refine wpAnyIn_ready (rs := [0]) (by kernel_rfl) (by simp) ?_
            refine AllReadyIn.cons rfl (fun K hK => ?_) ?_
            · go_simp
              refine hK _ _ ?_
              clear hK K
              refine wpAnyIn_ready (rs := [4]) (by kernel_rfl) (by simp) ?_
              refine AllReadyIn.cons rfl (fun K hK => ?_) ?_
              · go_simp
                refine ⟨trivial, (CallsIn.inRound l (callsIn_wide.2 HG.out)).mono ?_⟩
                rintro e W3 ⟨rfl, v', q1, q2⟩
                refine hK _ _ ?_
                refine wpAnyIn_done (by kernel_rfl) ?_ _
                exact HH.out _ _ q1 q2
              exact AllReadyIn.nil
            exact AllReadyIn.nil
          exact AllReadyIn.nil
        exact AllReadyIn.nil
      refine AllReadyIn.cons rfl (fun K hK => ?_) ?_
      · go_simp
        refine hK _ _ ?_
        clear hK K
        refine wpAnyIn_ready (rs := [0, 1]) (by kernel_rfl) (by simp) ?_
        refine AllReadyIn.cons rfl (fun K hK => ?_) ?_
        · go_simp
          refine hK _ _ ?_
          clear hK K
          refine wpAnyIn_ready (rs := [1]) (by kernel_rfl) (by simp) ?_
          refine AllReadyIn.cons rfl (fun K hK => ?_) ?_
          · go_simp
            refine hK _ _ ?_
            clear hK K
            refine wpAnyIn_ready (rs := [3]) (by kernel_rfl) (by simp) ?_
            refine AllReadyIn.cons rfl (fun K hK => ?_) ?_
            · go_simp
              refine ⟨trivial, (CallsIn.inRound l (callsIn_wide.2 (byteOf_any p _))).mono ?_⟩
              rintro e W3 ⟨rfl, rfl⟩
              refine hK _ _ ?_
              clear hK K
              refine wpAnyIn_ready (rs := [4]) (by kernel_rfl) (by simp) ?_
              refine AllReadyIn.cons rfl (fun K hK => ?_) ?_
              · go_simp
                refine ⟨trivial, (CallsIn.inRound l (callsIn_wide.2 HG.out)).mono ?_⟩
                rintro e W3 ⟨rfl, v', q1, q2⟩
                refine hK _ _ ?_
                refine wpAnyIn_done (by kernel_rfl) ?_ _
                exact HH.out _ _ q1 q2
              exact AllReadyIn.nil
            exact AllReadyIn.nil
          exact AllReadyIn.nil
        refine AllReadyIn.cons rfl (fun K hK => ?_) ?_
        · go_simp
          refine hK _ _ ?_
          clear hK K
          refine wpAnyIn_ready (rs := [0, 3]) (by kernel_rfl) (by simp) ?_
          refine AllReadyIn.cons rfl (fun K hK => ?_) ?_
          · go_simp
            refine hK _ _ ?_
            clear hK K
            refine wpAnyIn_ready (rs := [3]) (by kernel_rfl) (by simp) ?_
            refine AllReadyIn.cons rfl (fun K hK => ?_) ?_
            · go_simp
              refine ⟨trivial, (CallsIn.inRound l (callsIn_wide.2 (byteOf_any p _))).mono ?_⟩
              rintro e W3 ⟨rfl, rfl⟩
              refine hK _ _ ?_
              clear hK K
              refine wpAnyIn_ready (rs := [4]) (by kernel_rfl) (by simp) ?_
              refine AllReadyIn.cons rfl (fun K hK => ?_) ?_
              · go_simp
                refine ⟨trivial, (CallsIn.inRound l (callsIn_wide.2 HG.out)).mono ?_⟩
                rintro e W3 ⟨rfl, v', q1, q2⟩
                refine hK _ _ ?_
                refine wpAnyIn_done (by kernel_rfl) ?_ _
                exact HH.out _ _ q1 q2
              exact AllReadyIn.nil
            exact AllReadyIn.nil
          refine AllReadyIn.cons rfl (fun K hK => ?_) ?_
          · go_simp
            refine ⟨trivial, (CallsIn.inRound l (callsIn_wide.2 (byteOf_any p _))).mono ?_⟩
            rintro e W3 ⟨rfl, rfl⟩
            refine hK _ _ ?_
            clear hK K
            refine wpAnyIn_ready (rs := [0]) (by kernel_rfl) (by simp) ?_
            refine AllReadyIn.cons rfl (fun K hK => ?_) ?_
            · go_simp
              refine hK _ _ ?_
              clear hK K
              refine wpAnyIn_ready (rs := [4]) (by kernel_rfl) (by simp) ?_
              refine AllReadyIn.cons rfl (fun K hK => ?_) ?_
              · go_simp
                refine ⟨trivial, (CallsIn.inRound l (callsIn_wide.2 HG.out)).mono ?_⟩
                rintro e W3 ⟨rfl, v', q1, q2⟩
                refine hK _ _ ?_
                refine wpAnyIn_done (by kernel_rfl) ?_ _
                exact HH.out _ _ q1 q2
              exact AllReadyIn.nil
            exact AllReadyIn.nil
          exact AllReadyIn.nil
        exact AllReadyIn.nil
      exact AllReadyIn.nil
  case done =>
    rintro D xs W hD rfl ⟨v, va, hP⟩ hK
    have hpl := parL_len (sgns S.data.toList)
    have hsl := sgns_len S.data.toList
    have hs2 : S.data.toList.length ≤ 2000 := by simpa using hS
    have HL : Hid _ := lay_nil hP.tx hP.al hP.kp.size (by omega)
    have cL := hP.la.cell
    have HD : Hid (∀ W' v' va', Tx w.heap.size (w.heap.size + 1) [] v' W' → Al w.heap.size w.heap.size (parseF S.data.toList) va' W' → Fr (LyS (w.heap.size + 1) w.heap.size v va) W W' → Kp w W' ∧ W'.heap[D]? = some (.deferred (some []))) := by
      intro W' v' va' q1 q2 q3
      refine ⟨(hP.more (st' := (parseF S.data.toList, [])) q1 q2 q3).kp, ?_⟩
      rw [q3.block D (Array.getElem?_eq_some_iff.1 hK).1 fun q => ?_]
      · exact hK
      · obtain ⟨c, e, g, hc, _⟩ := hP.ty D q
        rw [hK] at hc; cases hc
    clear HSQ HS hP hK
    go_wp2_with fail
    refine Calls.mono HL.out ?_
    rintro e W2 ⟨rfl, v', va', q1, q2, q3⟩
    obtain ⟨hK2, hK⟩ := HD.out _ _ _ q1 q2 q3
    have HA : Hid (Al w.heap.size w.heap.size (parseF S.data.toList) va' W2 ∧ Kp w W2) := ⟨q2, hK2⟩
    have cA := q2.box.cell
    obtain ⟨a1, a2, rfl, z1, z2⟩ := owns_form q2.row
    clear q1 q2 q3 hK2 z1 z2 HD HL
    go_wp2_with fail
    refine ⟨by simp, .inl ⟨_, _, rfl, run_takeDeferred hK, ?_⟩⟩
    refine ⟨_, results_tmp rfl _ _ _, ⟨_, rfl, ?_⟩, kp_put HA.out.2 (by omega)⟩
    exact ownsRow_putObj HA.out.1.row _ hK rfl
  case stop =>
    rintro D c pre W _ _ h _
    exact h.elim
end Go.Proofs.Ytbeaoonddlfcgaa
