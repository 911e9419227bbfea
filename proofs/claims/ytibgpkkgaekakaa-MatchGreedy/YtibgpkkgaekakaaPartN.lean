import Derived.Test.YtibgpkkgaekakaaPartM
import Derived.Laws.Concat
namespace Go.Proofs.Ytibgpkkgaekakaa
open Go.ChangeShapes Go.WideShapes Go.ChangeAt Go.RowKit
set_option linter.unusedVariables false
set_option linter.unusedSimpArgs false
def oneC (d : Ins) : List Ins := [d, { op := 14 }]
def mcO (u : List Int) (k n : Nat) : Mc := ⟨u, [], { tyE k with nx := 1 }, [], n⟩
section
variable {s : ByteArray} {fo : Bool} {d : Ins}
theorem one_go (h4 : d.op ≠ 4) (h5 : d.op ≠ 5) (h14 : d.op ≠ 14) (u : List Int) (k n : Nat) :
    goE (oneC d) s fo (n + 2) ⟨u, [], tyE k, [], n + 2⟩ = if (passE s fo d (mcO u k (n + 1))).1 then (1, (passE s fo d (mcO u k (n + 1))).2.steps n) else (0, (passE s fo d (mcO u k (n + 1))).2) := by
  have e0 : insAt (oneC d) (⟨u, [], tyE k, [], n + 2⟩ : Mc).t.nx = d := rfl
  have e1 : doE (oneC d).length s fo d ((⟨u, [], tyE k, [], n + 2⟩ : Mc).steps (n + 1)) = passE s fo d (mcO u k (n + 1)) := by
    unfold doE
    rw [if_neg h4, if_neg h5, if_pos (by show 0 + 1 < 2; omega)]
    rfl
  rw [goE, e0, if_neg h14, e1]
  by_cases hp : (passE s fo d (mcO u k (n + 1))).1 = true
  · rw [if_pos hp, if_pos hp, goE]
    have e2 : (passE s fo d (mcO u k (n + 1))).2.t.nx = 1 := (pass_st s fo d (mcO u k (n + 1))).2.2
    rw [e2]
    rfl
  · rw [if_neg hp, if_neg hp]
theorem one_at (h4 : d.op ≠ 4) (h5 : d.op ≠ 5) (h14 : d.op ≠ 14) {m : Mc} (ha : m.sd = []) (k : Nat) {n : Nat} (hs : m.st = n + 2) :
    atE (oneC d) s fo k m = if (passE s fo d (mcO (undo m) k (n + 1))).1 then (1, (passE s fo d (mcO (undo m) k (n + 1))).2.steps n) else (0, (passE s fo d (mcO (undo m) k (n + 1))).2) := by
  have e : resE { m with sd := m.sd ++ [tyE k] } = some ⟨undo m, [], tyE k, [], n + 2⟩ := by
    unfold resE
    simp only [ha, List.nil_append, List.getLast?_singleton, Option.map_some, List.dropLast_singleton]
    rw [show (tyE k).ch = 0 from rfl, back_zero]
    rw [← hs]
    rfl
  unfold atE
  rw [tryE, e]
  simp only
  rw [one_go h4 h5 h14]
  by_cases hp : (passE s fo d (mcO (undo m) k (n + 1))).1 = true
  · rw [if_pos hp]
    rfl
  · rw [if_neg hp]
    simp only
    rw [if_pos trivial, tryE]
    have : resE (passE s fo d (mcO (undo m) k (n + 1))).2 = none := by
      unfold resE
      rw [(pass_st s fo d (mcO (undo m) k (n + 1))).2.1]
      rfl
    rw [this]
structure Asks (s : ByteArray) (fo : Bool) (d : Ins) (c : Nat → Bool) (adv : Nat) : Prop where
  n4 : d.op ≠ 4
  n5 : d.op ≠ 5
  n14 : d.op ≠ 14
  pass : ∀ u k n, k ≤ s.size → passE s fo d (mcO u k n) = (c k, if c k then (mcO u k n).pos (k + adv) else mcO u k n)
variable {c : Nat → Bool} {adv : Nat}
theorem Asks.at (h : Asks s fo d c adv) {m : Mc} (ha : m.sd = []) {k : Nat} (hk : k ≤ s.size) {n : Nat} (hs : m.st = n + 2) :
    atE (oneC d) s fo k m = if c k then (1, ((mcO (undo m) k n).pos (k + adv))) else (0, mcO (undo m) k (n + 1)) := by
  rw [one_at h.n4 h.n5 h.n14 ha k hs, h.pass _ _ _ hk]
  cases c k <;> rfl
theorem Asks.none (h : Asks s fo d c adv) (f : Nat) : ∀ (k : Nat) (m : Mc), m.sd = [] → f + 2 ≤ m.st → k + f ≤ s.size + 1 → (∀ j, k ≤ j → j < k + f → c j = false) → (frmE (oneC d) s fo f k m).1 = 0 := by
  induction f with
  | zero => intro k m _ _ _ _; rfl
  | succ f ih =>
    intro k m ha hs hk hc
    obtain ⟨n, hn⟩ : ∃ n, m.st = n + 2 := ⟨m.st - 2, by omega⟩
    rw [frmE, h.at ha (by omega) hn, hc k (Nat.le_refl _) (by omega)]
    exact ih (k + 1) _ rfl (by show f + 2 ≤ n + 1; omega) (by omega) fun j h1 h2 => hc j (by omega) (by omega)
theorem Asks.some (h : Asks s fo d c adv) (f : Nat) : ∀ (k : Nat) (m : Mc) (K : Nat), m.sd = [] → f + 2 ≤ m.st → k + f ≤ s.size + 1 → k ≤ K → K < k + f → c K = true → (∀ j, k ≤ j → j < K → c j = false) →
    (frmE (oneC d) s fo f k m).1 = 1 ∧ (frmE (oneC d) s fo f k m).2.1 = K ∧ (frmE (oneC d) s fo f k m).2.2.t = { tyE K with nx := 1, k := K + adv } := by
  induction f with
  | zero => intro k m K _ _ _ _ hK; omega
  | succ f ih =>
    intro k m K ha hs hk h1 h2 hK hc
    obtain ⟨n, hn⟩ : ∃ n, m.st = n + 2 := ⟨m.st - 2, by omega⟩
    rw [frmE, h.at ha (by omega) hn]
    by_cases e : k = K
    · subst e
      rw [hK]
      exact ⟨rfl, rfl, rfl⟩
    · rw [hc k (Nat.le_refl _) (by omega)]
      exact ih (k + 1) _ K rfl (by show f + 2 ≤ n + 1; omega) (by omega) (by omega) (by omega) hK fun j q1 q2 => hc j (by omega) q2
theorem fir_at {C : List Ins} {r : Int} (h : sndF C r = true) {j st : Nat} (hj : j ≤ s.size) (hst : st ≤ 5000) : firE C r s fo j j st = ansE C r.toNat s fo 1 j st := by
  unfold firE
  rw [if_pos ⟨by omega, by omega, by omega, by omega, h⟩, show ((j : Int) + 1 - (j : Int)).toNat = 1 by omega]
  rfl
end
end Go.Proofs.Ytibgpkkgaekakaa
namespace Go.Proofs.Ytibgpkkgaekakaa
open Go.ChangeShapes Go.WideShapes Go.ChangeAt Go.RowKit
set_option linter.unusedVariables false
set_option linter.unusedSimpArgs false
end Go.Proofs.Ytibgpkkgaekakaa
namespace Go.Proofs.Ytibgpkkgaekakaa
open Go.ChangeShapes Go.WideShapes Go.ChangeAt Go.RowKit
set_option linter.unusedVariables false
set_option linter.unusedSimpArgs false
end Go.Proofs.Ytibgpkkgaekakaa
namespace Go.Proofs.Ytibgpkkgaekakaa
open Go.ChangeShapes Go.WideShapes Go.ChangeAt Go.RowKit
set_option linter.unusedVariables false
set_option linter.unusedSimpArgs false
end Go.Proofs.Ytibgpkkgaekakaa
namespace Go.Proofs.Ytibgpkkgaekakaa
open Go.ChangeShapes Go.WideShapes Go.ChangeAt Go.RowKit
set_option linter.unusedVariables false
set_option linter.unusedSimpArgs false
theorem byte_str (w : World) (n : Int) (c : UInt8) (h : n = (c.toNat : Int)) : (convert 38 9 (.slice (some ⟨w.heap.size, 0, none⟩) 1 1)).run Try.prog (w.alloc (.cells #[.int .u8 n] 5)) = .ok (.string ⟨#[c]⟩) (w.alloc (.cells #[.int .u8 n] 5)) :=
  run_convert_bytes_back (P := Try.prog) _ 38 9 5 ⟨w.heap.size, 0, none⟩ 1 [c] Try.underlying38 Try.underlying5 Try.underlying9 (fun j hj => by
    have hj0 : j = 0 := by simpa using hj
    subst hj0
    rw [Addr.add_lit, cell_at (alloc_new w _)]
    show some (Value.int .u8 n) = some (Value.int .u8 (c.toNat : Int))
    rw [h])
end Go.Proofs.Ytibgpkkgaekakaa
namespace Go.Proofs.Ytibgpkkgaekakaa
open Go.ChangeShapes Go.WideShapes Go.ChangeAt Go.RowKit
set_option linter.unusedVariables false
set_option linter.unusedSimpArgs false
def digS (n : Nat) : List UInt8 := if n < 10 then [UInt8.ofNat (48 + n)] else [UInt8.ofNat (48 + n / 10), UInt8.ofNat (48 + n % 10)]
section
variable {s : ByteArray} {fo : Bool}
theorem go_step {C : List Ins} {d : Ins} {m : Mc} {q : Mc} {n : Nat} (hd : insAt C m.t.nx = d) (h14 : d.op ≠ 14) (h4 : d.op ≠ 4) (h5 : d.op ≠ 5) (hl : m.t.nx + 1 < C.length) (hp : passE s fo d ((m.steps n).go (m.t.nx + 1)) = (true, q)) :
    goE C s fo (n + 1) m = goE C s fo n q := by
  have e : doE C.length s fo d (m.steps n) = (true, q) := by
    unfold doE
    rw [if_neg h4, if_neg h5, if_pos (by exact hl)]
    exact hp
  rw [goE, hd, if_neg h14, e]
  rfl
end
end Go.Proofs.Ytibgpkkgaekakaa
namespace Go.Proofs.Ytibgpkkgaekakaa
open Go.ChangeShapes Go.WideShapes Go.ChangeAt Go.RowKit
set_option linter.unusedVariables false
set_option linter.unusedSimpArgs false
section
variable {s : ByteArray} {fo : Bool}
end
end Go.Proofs.Ytibgpkkgaekakaa
namespace Go.Proofs.Ytibgpkkgaekakaa
open Go.ChangeShapes Go.WideShapes Go.ChangeAt Go.RowKit
set_option linter.unusedVariables false
set_option linter.unusedSimpArgs false
theorem byt_list (s : ByteArray) (k : Nat) : byt s k = ((s.data.toList[k]?).getD 0).toNat := by
  by_cases h : k < s.size
  · rw [byt_eq h]
    have h' : k < s.data.toList.length := by rw [Array.length_toList]; exact h
    rw [List.getElem?_eq_getElem h']
    rfl
  · unfold byt
    rw [getElem?_neg s k h, List.getElem?_eq_none (by rw [Array.length_toList]; exact Nat.le_of_not_lt h)]
theorem app_list (a b : ByteArray) : (a ++ b).data.toList = a.data.toList ++ b.data.toList := by simp
set_option maxRecDepth 100000 in
theorem dig1 {n : Nat} (h : n < 10) (w : World) : Calls Try.prog 14 #[.int .i64 n] w fun e w' => e = .returned (.string ⟨#[UInt8.ofNat (48 + n)]⟩) ∧ Kp w w' := by
  have d10 : decide ((n : Int) < 10) = true := decide_eq_true (by omega)
  obtain ⟨cb, hcb⟩ : ∃ c, UInt8.ofNat (48 + n) = c := ⟨_, rfl⟩
  have ecb : cb.toNat = 48 + n := by rw [← hcb, UInt8.toNat_ofNat']; omega
  rw [hcb]
  have hcv := byte_str w (48 + (n : Int)) cb (by rw [ecb]; omega)
  clear hcb ecb
  go_enter Try.func14, Try.ntmps14
  go_wp2_with fail
  go_ret
  exact ⟨rfl, kp_alloc _ _⟩
set_option maxRecDepth 100000 in
set_option maxHeartbeats 4000000 in
theorem dig_m {n : Nat} (h : n < 100) (w : World) : Calls Try.prog 14 #[.int .i64 n] w fun e w' => e = .returned (.string ⟨(digS n).toArray⟩) ∧ Kp w w' := by
  unfold digS
  by_cases h10 : n < 10
  · rw [if_pos h10]
    exact dig1 h10 w
  rw [if_neg h10]
  have d10 : decide ((n : Int) < 10) = false := decide_eq_false (by omega)
  obtain ⟨p, hp⟩ : ∃ p, n / 10 = p := ⟨_, rfl⟩
  obtain ⟨q, hq⟩ : ∃ q, n % 10 = q := ⟨_, rfl⟩
  rw [hp, hq]
  have H1 : Hid _ := fun x => dig1 (n := p) (by omega) x
  have H2 : Hid _ := fun x => dig1 (n := q) (by omega) x
  have hw1 : (n : Int) / 10 = (p : Int) := by omega
  have hm1 : (n : Int) % 10 = (q : Int) := by omega
  obtain ⟨A, hA⟩ : ∃ c, UInt8.ofNat (48 + p) = c := ⟨_, rfl⟩
  obtain ⟨B, hB⟩ : ∃ c, UInt8.ofNat (48 + q) = c := ⟨_, rfl⟩
  rw [hA] at H1 ⊢
  rw [hB] at H2 ⊢
  have had : ∀ z : World, (Op.stringOp .add ⟨#[A]⟩ ⟨#[B]⟩).run Try.prog z = .ok (.string ⟨#[A, B]⟩) z := fun z => run_string_add_sum z ⟨#[A]⟩ ⟨#[B]⟩ (by show 1 + 1 ≤ _; omega)
  clear hp hq hA hB h10
  go_enter Try.func14, Try.ntmps14
  go_wp2_with fail
  refine Calls.mono (H1.out _) ?_
  rintro e w1 ⟨rfl, q1⟩
  have HQ1 : Hid (Kp w w1) := q1
  clear q1
  go_wp2_with fail
  refine Calls.mono (H2.out _) ?_
  rintro e w2 ⟨rfl, q2⟩
  have HQ2 : Hid (Kp w w2) := kp_trans HQ1.out q2
  clear q2
  go_wp2_with fail
  go_ret
  exact ⟨rfl, HQ2.out⟩
end Go.Proofs.Ytibgpkkgaekakaa
namespace Go.Proofs.Ytibgpkkgaekakaa
open Go.ChangeShapes Go.WideShapes Go.ChangeAt Go.RowKit
set_option linter.unusedVariables false
set_option linter.unusedSimpArgs false
def aI : Ins := { op := 1, c := 97 }
def grT (n h : Nat) (lz : Bool) (i : Nat) : List Ins :=
  [{ op := 4, x := if lz then ((n + 4 * h : Nat) : Int) else ((n + 4 * i + 1 : Nat) : Int), y := if lz then ((n + 4 * i + 1 : Nat) : Int) else ((n + 4 * h : Nat) : Int) }, { op := 12, x := i }, aI, { op := 13, x := i }]
def grC (n h : Nat) (lz : Bool) : List Ins := List.replicate n aI ++ ((List.range h).flatMap (grT n h lz) ++ [{ op := 14 }])
def grP (n m : Nat) (lz : Bool) : ByteArray := ⟨([97, 92, 123] ++ (if lz then [45] else []) ++ digS n ++ [44] ++ digS m ++ [125]).toArray⟩
def nodG (n h : Nat) (lz : Bool) : List Nq := [⟨2, 97, zeroS, 0, 0, false, 0, []⟩, ⟨7, 0, zeroS, n, ((n + h : Nat) : Int), lz, 0, [0]⟩]
def eqN (a b : Nq) : Bool := a.op == b.op && a.c == b.c && a.set.a == b.set.a && a.set.b == b.set.b && a.set.c == b.set.c && a.set.d == b.set.d && a.mn == b.mn && a.mx == b.mx && a.lz == b.lz && a.n == b.n && a.kids == b.kids
theorem eqN_eq {a b : Nq} (h : eqN a b = true) : a = b := by
  obtain ⟨o, c, ⟨p, q, r, t⟩, x, y, z, u, v⟩ := a
  obtain ⟨o', c', ⟨p', q', r', t'⟩, x', y', z', u', v'⟩ := b
  unfold eqN at h
  simp only [Bool.and_eq_true, beq_iff_eq] at h
  obtain ⟨⟨⟨⟨⟨⟨⟨⟨⟨⟨rfl, rfl⟩, rfl⟩, rfl⟩, rfl⟩, rfl⟩, rfl⟩, rfl⟩, rfl⟩, rfl⟩, rfl⟩ := h
  rfl
def chkR (lz : Bool) (n h : Nat) : Bool := match refF (grP n (n + h) lz) ⟨#[]⟩ with
  | .ok (root, r) => root == 1 && r.g == 0 && r.cs == 0 && (match r.nds.map Nd.q with | [a, b] => eqN a ⟨2, 97, zeroS, 0, 0, false, 0, []⟩ && eqN b ⟨7, 0, zeroS, n, ((n + h : Nat) : Int), lz, 0, [0]⟩ | _ => false) && sndR2 (nodG n h lz) 1 0
  | .error _ => false
set_option maxRecDepth 1000000 in
theorem chkR_all : ((List.range 30).all (fun n => (List.range 30).all (chkR false n)) && (List.range 30).all (fun n => (List.range 30).all (chkR true n))) = true := by kernel_rfl
end Go.Proofs.Ytibgpkkgaekakaa
namespace Go.Proofs.Ytibgpkkgaekakaa
open Go.ChangeShapes Go.WideShapes Go.ChangeAt Go.RowKit
set_option linter.unusedVariables false
set_option linter.unusedSimpArgs false
def rawT (i : Nat) : List Ins := [{ op := 4 }, { op := 12, x := i }, aI, { op := 13, x := i }]
section
variable {n h : Nat} {lz : Bool}
theorem lay_short {c : List Ins} (r : Nat) (hx : c.length ≤ 2000) (d : Ins) : layE d ⟨c, r, false⟩ = (c.length, ⟨c ++ [d], r, false⟩) := by
  unfold layE; rw [if_neg (by show ¬ 2000 < c.length; omega)]
theorem nodA {f : Nat} {c : List Ins} (r : Nat) (hx : c.length ≤ 2000) : nodeE (nodG n h lz) (f + 1) 0 ⟨c, r, false⟩ = ⟨c ++ [aI], r, false⟩ := by
  rw [nodeE, if_neg (by show ¬ (false = true); decide)]
  show (layE aI ⟨c, r, false⟩).2 = _
  rw [lay_short r hx]
theorem repA (f : Nat) : ∀ (k : Nat) (c : List Ins) (r : Nat), c.length + k ≤ 2000 → repE (nodeE (nodG n h lz) (f + 1)) 0 k ⟨c, r, false⟩ = ⟨c ++ List.replicate k aI, r, false⟩ := by
  intro k
  induction k with
  | zero => intro c r _; rw [repE]; simp
  | succ k ih =>
    intro c r hx
    rw [repE, if_neg (by show ¬ (false = true); decide), nodA r (by omega), ih _ r (by rw [List.length_append]; show c.length + 1 + k ≤ 2000; omega)]
    rw [List.append_assoc, List.replicate_succ]
    rfl
theorem rouA (f : Nat) (c : List Ins) (r : Nat) (hx : c.length + 4 ≤ 2000) : roundE (nodeE (nodG n h lz) (f + 1)) 0 ⟨c, r, false⟩ = (c.length, ⟨c ++ rawT r, r + 1, false⟩) := by
  unfold roundE
  rw [lay_short r (by omega)]
  show (c.length, (layE { op := 13, x := r } (nodeE (nodG n h lz) (f + 1) 0 (layE { op := 12, x := r } ⟨c ++ [{ op := 4 }], r + 1, false⟩).2)).2) = _
  rw [lay_short (r + 1) (by rw [List.length_append]; show c.length + 1 ≤ 2000; omega)]
  show (c.length, (layE { op := 13, x := r } (nodeE (nodG n h lz) (f + 1) 0 ⟨c ++ [{ op := 4 }] ++ [{ op := 12, x := r }], r + 1, false⟩)).2) = _
  rw [nodA (r + 1) (by rw [List.length_append, List.length_append]; show c.length + 1 + 1 ≤ 2000; omega), lay_short (r + 1) (by rw [List.length_append, List.length_append, List.length_append]; show c.length + 1 + 1 + 1 ≤ 2000; omega)]
  show (c.length, (⟨c ++ [{ op := 4 }] ++ [{ op := 12, x := r }] ++ [aI] ++ [{ op := 13, x := r }], r + 1, false⟩ : Ds)) = _
  rw [List.append_assoc, List.append_assoc, List.append_assoc]
  rfl
theorem triA (f : Nat) : ∀ (k : Nat) (l : List Nat) (c : List Ins) (r : Nat), c.length + 4 * k ≤ 2000 → triesE (nodeE (nodG n h lz) (f + 1)) 0 k l ⟨c, r, false⟩ =
    (l ++ (List.range' 0 k).map (fun j => c.length + 4 * j), ⟨c ++ (List.range' r k).flatMap rawT, r + k, false⟩) := by
  intro k
  induction k with
  | zero => intro l c r _; rw [triesE]; simp
  | succ k ih =>
    intro l c r hx
    rw [triesE, if_neg (by show ¬ (false = true); decide), rouA f c r (by omega)]
    show triesE _ 0 k (l ++ [c.length]) ⟨c ++ rawT r, r + 1, false⟩ = _
    have e4 : (c ++ rawT r).length = c.length + 4 := by rw [List.length_append]; rfl
    rw [ih _ _ _ (by rw [e4]; omega), e4]
    have e1 : (List.range' 0 (k + 1)).map (fun j => c.length + 4 * j) = c.length :: (List.range' 0 k).map (fun j => c.length + 4 + 4 * j) := by
      rw [List.range'_succ, List.map_cons, List.range'_eq_map_range, List.range'_eq_map_range, List.map_map, List.map_map]
      congr 1
      refine List.map_congr_left fun j _ => ?_
      simp only [Function.comp]
      omega
    rw [e1, List.range'_succ, List.flatMap_cons, List.append_assoc, List.append_assoc, show r + 1 + k = r + (k + 1) by omega]
    rfl
theorem toL_mid (A B : List Ins) (i out : Nat) (lz : Bool) : toL (A ++ (rawT i ++ B)) A.length out lz = A ++ ([{ op := 4, x := if lz then (out : Int) else (A.length : Int) + 1, y := if lz then (A.length : Int) + 1 else (out : Int) }, { op := 12, x := i }, aI, { op := 13, x := i }] ++ B) := by
  unfold toL
  rw [List.getElem?_append_right (Nat.le_refl _), Nat.sub_self]
  show (A ++ (rawT i ++ B)).set A.length _ = _
  rw [List.set_append_right _ _ (Nat.le_refl _), Nat.sub_self]
  rfl
theorem tosA (hl : n + 4 * h ≤ 2000) : ∀ (k j : Nat) (x : Ds), j + k = h → x.c = List.replicate n aI ++ ((List.range j).flatMap (grT n h lz) ++ (List.range' j k).flatMap rawT) →
    tosE lz ((List.range' j k).map (fun i => n + 4 * i)) x = { x with c := List.replicate n aI ++ (List.range h).flatMap (grT n h lz) } := by
  intro k
  induction k with
  | zero =>
    intro j x hj hx
    rw [show j = h by omega] at hx
    simp at hx
    rw [List.range'_zero, List.map_nil, tosE, ← hx]
  | succ k ih =>
    intro j x hj hx
    have hlen : ∀ (m : Nat) (l : List Nat), (l.flatMap (grT n h lz)).length = 4 * l.length := by
      intro _ l
      induction l with
      | nil => rfl
      | cons a l ih2 => rw [List.flatMap_cons, List.length_append, ih2]; show 4 + _ = _; simp; omega
    have hlr : ∀ l : List Nat, (l.flatMap rawT).length = 4 * l.length := by
      intro l
      induction l with
      | nil => rfl
      | cons a l ih2 => rw [List.flatMap_cons, List.length_append, ih2]; show 4 + _ = _; simp; omega
    have hxl : x.c.length = n + 4 * h := by rw [hx]; simp [hlen 0, hlr]; omega
    have hA : (List.replicate n aI ++ (List.range j).flatMap (grT n h lz)).length = n + 4 * j := by simp [hlen 0]
    rw [List.range'_succ, List.map_cons, tosE, hxl]
    rw [List.range'_succ, List.flatMap_cons, ← List.append_assoc] at hx
    refine (ih (j + 1) _ (by omega) ?_).trans ?_
    · simp only
      rw [hx, ← hA, toL_mid, hA, List.range_succ, List.flatMap_append, List.flatMap_singleton, List.append_assoc, List.append_assoc]
      rfl
    · rfl
theorem grCode (hn : n ≤ 30) (hh : h ≤ 30) : cmpE2 (nodG n h lz) 1 0 0 false = if sndR2 (nodG n h lz) 1 0 = false then (1, [], 0, false) else (0, grC n h lz, h, false) := by
  have e : nodeE (nodG n h lz) 3 1 ⟨[], 0, false⟩ = ⟨List.replicate n aI ++ (List.range h).flatMap (grT n h lz), h, false⟩ := by
    rw [nodeE, if_neg (by decide)]
    show manyE (nodeE (nodG n h lz) 2) 0 ((n : Int)).toNat ((n + h : Nat) : Int) lz ⟨[], 0, false⟩ = _
    unfold manyE
    rw [Int.toNat_natCast, Int.toNat_natCast, repA 1 n [] 0 (by show 0 + n ≤ 2000; omega)]
    show (if false = true then _ else if ((n + h : Nat) : Int) < 0 then _ else _) = _
    rw [if_neg (by decide), if_neg (by omega), show n + h - n = h by omega, List.nil_append, triA 1 h [] _ 0 (by rw [List.length_replicate]; omega)]
    show tosE lz ((List.range' 0 h).map (fun j => (List.replicate n aI).length + 4 * j)) _ = _
    rw [List.length_replicate, tosA (h := h) (by omega) h 0 _ (by omega) (by rfl)]
    show (⟨_, 0 + h, false⟩ : Ds) = _
    rw [Nat.zero_add]
  have hlen : ∀ l : List Nat, (l.flatMap (grT n h lz)).length = 4 * l.length := by
    intro l
    induction l with
    | nil => rfl
    | cons a l ih2 => rw [List.flatMap_cons, List.length_append, ih2]; show 4 + _ = _; simp; omega
  have hl : (List.replicate n aI ++ (List.range h).flatMap (grT n h lz)).length = n + 4 * h := by rw [List.length_append, List.length_replicate, hlen, List.length_range]
  unfold cmpE2
  by_cases hs : sndR2 (nodG n h lz) 1 0 = false
  · rw [if_pos hs, if_pos hs]
  rw [if_neg hs, if_neg hs, show (nodG n h lz).length + 1 = 3 from rfl, e, lay_short h (by rw [hl]; omega)]
  have hl2 : (List.replicate n aI ++ (List.range h).flatMap (grT n h lz) ++ [({ op := 14 } : Ins)]).length = n + 4 * h + 1 := by rw [List.length_append, hl]; rfl
  rw [if_neg (by
    rintro (q | q)
    · cases q
    · have : 2000 < (List.replicate n aI ++ (List.range h).flatMap (grT n h lz) ++ [({ op := 14 } : Ins)]).length := q
      rw [hl2] at this; omega)]
  show (0, _ ++ [({ op := 14 } : Ins)], h, if (0 : Int) = 0 then false else _) = _
  rw [if_pos rfl, List.append_assoc]
  rfl
theorem gr_cpd (hn : n < 30) (hh : h < 30) : cpdE (grP n (n + h) lz) false = (grC n h lz, h, false) := by
  have hc := chkR_all
  rw [Bool.and_eq_true] at hc
  have hk : chkR lz n h = true := by
    cases lz
    · exact List.all_eq_true.1 (List.all_eq_true.1 hc.1 n (List.mem_range.2 hn)) h (List.mem_range.2 hh)
    · exact List.all_eq_true.1 (List.all_eq_true.1 hc.2 n (List.mem_range.2 hn)) h (List.mem_range.2 hh)
  rw [cpd_eq]
  unfold chkR at hk
  unfold cpdE2
  cases hr : refF (grP n (n + h) lz) ⟨#[]⟩ with
  | error E => rw [hr] at hk; cases hk
  | ok X =>
    obtain ⟨root, r⟩ := X
    rw [hr] at hk
    simp only [Bool.and_eq_true, beq_iff_eq] at hk
    obtain ⟨⟨⟨⟨h1, h2⟩, h3⟩, h4⟩, h5⟩ := hk
    have hN : r.nds.map Nd.q = nodG n h lz := by
      split at h4
      · rename_i a b q
        rw [Bool.and_eq_true] at h4
        rw [q, eqN_eq h4.1, eqN_eq h4.2]
        rfl
      · cases h4
    simp only
    rw [hN, h1, h2, h3]
    have := grCode (n := n) (h := h) (lz := lz) (by omega) (by omega)
    rw [h5, if_neg (by decide)] at this
    show (cmpE2 (nodG n h lz) 1 0 0 false).2 = _
    rw [this]
end
end Go.Proofs.Ytibgpkkgaekakaa
namespace Go.Proofs.Ytibgpkkgaekakaa
open Go.ChangeShapes Go.WideShapes Go.ChangeAt Go.RowKit
set_option linter.unusedVariables false
set_option linter.unusedSimpArgs false
theorem flat4 (f : Nat → List Ins) (hf : ∀ i, (f i).length = 4) : ∀ (l : List Nat) (i j : Nat) (a : Nat), l[i]? = some a → j < 4 → (l.flatMap f)[4 * i + j]? = (f a)[j]?
  | [], i, j, a, h, _ => by simp at h
  | b :: l, 0, j, a, h, hj => by
    simp only [List.getElem?_cons_zero, Option.some.injEq] at h
    subst h
    rw [List.flatMap_cons, List.getElem?_append_left (by rw [hf]; omega), Nat.mul_zero, Nat.zero_add]
  | b :: l, i + 1, j, a, h, hj => by
    simp only [List.getElem?_cons_succ] at h
    rw [List.flatMap_cons, List.getElem?_append_right (by rw [hf]; omega), hf, show 4 * (i + 1) + j - 4 = 4 * i + j by omega]
    exact flat4 f hf l i j a h hj
section
variable {n h : Nat} {lz : Bool} {s : ByteArray}
theorem grT_len (i : Nat) : (grT n h lz i).length = 4 := rfl
theorem flat_len : ∀ l : List Nat, (l.flatMap (grT n h lz)).length = 4 * l.length
  | [] => rfl
  | a :: l => by rw [List.flatMap_cons, List.length_append, flat_len l, grT_len, List.length_cons]; omega
theorem gr_len : (grC n h lz).length = n + 4 * h + 1 := by
  unfold grC
  rw [List.length_append, List.length_append, List.length_replicate, flat_len, List.length_range]
  show n + (4 * h + 1) = _
  omega
theorem gi_a {i : Nat} (hi : i < n) : insAt (grC n h lz) i = aI := by
  unfold insAt grC
  rw [List.getD_eq_getElem?_getD, List.getElem?_append_left (by simpa using hi)]
  simp [hi]
theorem gi_t {i j : Nat} (hi : i < h) (hj : j < 4) : insAt (grC n h lz) (n + 4 * i + j) = (grT n h lz i).getD j { op := 14 } := by
  unfold insAt grC
  rw [List.getD_eq_getElem?_getD, List.getElem?_append_right (by rw [List.length_replicate]; omega), List.length_replicate, show n + 4 * i + j - n = 4 * i + j by omega, List.getElem?_append_left (by rw [flat_len, List.length_range]; omega), flat4 _ grT_len (List.range h) i j i (by simp [hi]) hj, ← List.getD_eq_getElem?_getD]
theorem gi_end : insAt (grC n h lz) (n + 4 * h) = { op := 14 } := by
  unfold insAt grC
  rw [List.getD_eq_getElem?_getD, List.getElem?_append_right (by rw [List.length_replicate]; omega), List.length_replicate, show n + 4 * h - n = 4 * h by omega, List.getElem?_append_right (by rw [flat_len, List.length_range]; omega), flat_len, List.length_range, Nat.sub_self]
  rfl
def mcG (bg : List Int) (wt : List (Nat × Int)) (sd : List Ty) (nx k st : Nat) : Mc := ⟨bg, wt, ⟨(tyE 0).ss, nx, k, 0⟩, sd, st⟩
def AllA (s : ByteArray) : Prop := ∀ k, k < s.size → byt s k = 97
theorem fit_a (ha : AllA s) {k : Nat} (hk : k < s.size) : fitB s false aI k = true := by
  unfold fitB
  rw [if_neg (by omega), if_pos (by rfl), ha k hk]
  rfl
theorem fit_e : fitB s false aI s.size = false := by unfold fitB; rw [if_pos rfl]
theorem step_a (ha : AllA s) {bg : List Int} {wt : List (Nat × Int)} {sd : List Ty} {nx k st : Nat} (hi : insAt (grC n h lz) nx = aI) (hl : nx + 1 < n + 4 * h + 1) (hk : k < s.size) :
    goE (grC n h lz) s false (st + 1) (mcG bg wt sd nx k (st + 1)) = goE (grC n h lz) s false st (mcG bg wt sd (nx + 1) (k + 1) st) := by
  refine go_step (d := aI) (m := mcG bg wt sd nx k (st + 1)) hi (by decide) (by decide) (by decide) (by show nx + 1 < _; rw [gr_len]; exact hl) ?_
  show byteE s false aI _ = _
  unfold byteE
  show (if fitB s false aI k = true then _ else _) = _
  rw [if_pos (fit_a ha hk)]
  rfl
theorem stop_a {bg : List Int} {wt : List (Nat × Int)} {sd : List Ty} {nx st : Nat} (hi : insAt (grC n h lz) nx = aI) (hl : nx + 1 < n + 4 * h + 1) :
    goE (grC n h lz) s false (st + 1) (mcG bg wt sd nx s.size (st + 1)) = (0, mcG bg wt sd (nx + 1) s.size st) := by
  have e : doE (grC n h lz).length s false aI ((mcG bg wt sd nx s.size (st + 1)).steps st) = (false, mcG bg wt sd (nx + 1) s.size st) := by
    unfold doE
    rw [if_neg (by decide), if_neg (by decide), if_pos (by show nx + 1 < _; rw [gr_len]; exact hl)]
    show byteE s false aI _ = _
    unfold byteE
    show (if fitB s false aI s.size = true then _ else _) = _
    rw [fit_e]
    rfl
  have hi' : insAt (grC n h lz) (mcG bg wt sd nx s.size (st + 1)).t.nx = aI := hi
  rw [goE, hi', if_neg (by decide), e]
  rfl
theorem ph1 (ha : AllA s) {bg : List Int} {wt : List (Nat × Int)} {sd : List Ty} : ∀ (j st : Nat), j ≤ n → j ≤ s.size → goE (grC n h lz) s false (st + j) (mcG bg wt sd 0 0 (st + j)) = goE (grC n h lz) s false st (mcG bg wt sd j j st) := by
  intro j
  induction j with
  | zero => intro st _ _; rfl
  | succ j ih =>
    intro st h1 h2
    rw [show st + (j + 1) = (st + 1) + j by omega, ih (st + 1) (by omega) (by omega)]
    exact step_a ha (gi_a (by omega)) (by omega) (by omega)
theorem end_m {bg : List Int} {wt : List (Nat × Int)} {sd : List Ty} {t : Ty} {st : Nat} (ht : t.nx = n + 4 * h) : goE (grC n h lz) s false (st + 1) ⟨bg, wt, t, sd, st + 1⟩ = (1, ⟨bg, wt, t, sd, st⟩) := by
  rw [goE]
  show (if (insAt (grC n h lz) t.nx).op = 14 then _ else _) = _
  rw [ht, gi_end]
  rfl
theorem step_s {bg : List Int} {wt : List (Nat × Int)} {sd : List Ty} {i k st : Nat} (hi : i < h) :
    goE (grC n h lz) s false (st + 1) (mcG bg wt sd (n + 4 * i) k (st + 1)) = goE (grC n h lz) s false st (mcG bg wt (sd ++ [⟨(tyE 0).ss, if lz then n + 4 * i + 1 else n + 4 * h, k, wt.length⟩]) (if lz then n + 4 * h else n + 4 * i + 1) k st) := by
  have hd : insAt (grC n h lz) (n + 4 * i) = { op := 4, x := if lz then ((n + 4 * h : Nat) : Int) else ((n + 4 * i + 1 : Nat) : Int), y := if lz then ((n + 4 * i + 1 : Nat) : Int) else ((n + 4 * h : Nat) : Int) } := by
    have := gi_t (n := n) (lz := lz) (i := i) (j := 0) hi (by omega)
    rw [Nat.add_zero] at this
    exact this
  rw [goE]
  show (if (insAt (grC n h lz) (n + 4 * i)).op = 14 then _ else if (doE (grC n h lz).length s false (insAt (grC n h lz) (n + 4 * i)) ((mcG bg wt sd (n + 4 * i) k (st + 1)).steps st)).1 = true then goE (grC n h lz) s false st (doE (grC n h lz).length s false (insAt (grC n h lz) (n + 4 * i)) ((mcG bg wt sd (n + 4 * i) k (st + 1)).steps st)).2 else _) = _
  rw [hd, if_neg (by show ¬ (4 = 14); decide)]
  cases lz <;> rfl
theorem step_t (ha : AllA s) {bg : List Int} {wt : List (Nat × Int)} {sd : List Ty} {i k st : Nat} (hi : i < h) (hb : bg.length = h) (hk : k < s.size) :
    goE (grC n h lz) s false (st + 3) (mcG bg wt sd (n + 4 * i + 1) k (st + 3)) = goE (grC n h lz) s false st (mcG (bg.set i k) (wt ++ [(i, bg.getD i 0)]) sd (n + 4 * (i + 1)) (k + 1) st) := by
  have h1 : goE (grC n h lz) s false (st + 3) (mcG bg wt sd (n + 4 * i + 1) k (st + 3)) = goE (grC n h lz) s false (st + 2) (mcG (bg.set i k) (wt ++ [(i, bg.getD i 0)]) sd (n + 4 * i + 2) k (st + 2)) :=
    go_step (d := { op := 12, x := i }) (m := mcG bg wt sd (n + 4 * i + 1) k (st + 3)) (n := st + 2) (gi_t hi (by omega)) (by show (12 : Nat) ≠ 14; decide) (by show (12 : Nat) ≠ 4; decide) (by show (12 : Nat) ≠ 5; decide) (by show n + 4 * i + 1 + 1 < _; rw [gr_len]; omega) rfl
  have h2 := step_a (n := n) (h := h) (lz := lz) ha (bg := bg.set i k) (wt := wt ++ [(i, bg.getD i 0)]) (sd := sd) (nx := n + 4 * i + 2) (k := k) (st := st + 1) (gi_t (j := 2) hi (by omega)) (by omega) hk
  have h3 : goE (grC n h lz) s false (st + 1) (mcG (bg.set i k) (wt ++ [(i, bg.getD i 0)]) sd (n + 4 * i + 3) (k + 1) (st + 1)) = goE (grC n h lz) s false st (mcG (bg.set i k) (wt ++ [(i, bg.getD i 0)]) sd (n + 4 * (i + 1)) (k + 1) st) := by
    refine go_step (d := { op := 13, x := i }) (m := mcG (bg.set i k) (wt ++ [(i, bg.getD i 0)]) sd (n + 4 * i + 3) (k + 1) (st + 1)) (n := st) (gi_t (j := 3) hi (by omega)) (by show (13 : Nat) ≠ 14; decide) (by show (13 : Nat) ≠ 4; decide) (by show (13 : Nat) ≠ 5; decide) (by show n + 4 * i + 3 + 1 < _; rw [gr_len]; omega) ?_
    show ((bg.set i (k : Int)).getD i 0 != ((k + 1 : Nat) : Int), mcG (bg.set i k) (wt ++ [(i, bg.getD i 0)]) sd (n + 4 * i + 3 + 1) (k + 1) st) = _
    rw [List.getD_eq_getElem?_getD, List.getElem?_set_self (by omega), show n + 4 * i + 3 + 1 = n + 4 * (i + 1) by omega]
    congr 1
    simp only [Option.getD_some, bne_iff_ne, ne_eq]
    omega
  rw [h1, h2, h3]
theorem stop_t {bg : List Int} {wt : List (Nat × Int)} {sd : List Ty} {i st : Nat} (hi : i < h) :
    (goE (grC n h lz) s false (st + 2) (mcG bg wt sd (n + 4 * i + 1) s.size (st + 2))).1 = 0 ∧ (goE (grC n h lz) s false (st + 2) (mcG bg wt sd (n + 4 * i + 1) s.size (st + 2))).2.sd = sd ∧ (goE (grC n h lz) s false (st + 2) (mcG bg wt sd (n + 4 * i + 1) s.size (st + 2))).2.st = st := by
  have h1 : goE (grC n h lz) s false (st + 2) (mcG bg wt sd (n + 4 * i + 1) s.size (st + 2)) = goE (grC n h lz) s false (st + 1) (mcG (bg.set i s.size) (wt ++ [(i, bg.getD i 0)]) sd (n + 4 * i + 2) s.size (st + 1)) :=
    go_step (d := { op := 12, x := i }) (m := mcG bg wt sd (n + 4 * i + 1) s.size (st + 2)) (n := st + 1) (gi_t hi (by omega)) (by show (12 : Nat) ≠ 14; decide) (by show (12 : Nat) ≠ 4; decide) (by show (12 : Nat) ≠ 5; decide) (by show n + 4 * i + 1 + 1 < _; rw [gr_len]; omega) rfl
  rw [h1, stop_a (gi_t (j := 2) hi (by omega)) (by omega)]
  exact ⟨rfl, rfl, rfl⟩
theorem gr_run (ha : AllA s) : ∀ (d i : Nat), i + d = h → n + i ≤ s.size → ∀ (bg : List Int) (wt : List (Nat × Int)) (sd : List Ty) (st : Nat), bg.length = h → 4 * d + 5 ≤ st →
    ((goE (grC n h false) s false st (mcG bg wt sd (n + 4 * i) (n + i) st)).1 = 1 ∧ (∃ nx ch, (goE (grC n h false) s false st (mcG bg wt sd (n + 4 * i) (n + i) st)).2.t = ⟨(tyE 0).ss, nx, n + h, ch⟩) ∧ n + h ≤ s.size) ∨
    ((goE (grC n h false) s false st (mcG bg wt sd (n + 4 * i) (n + i) st)).1 = 0 ∧ (∃ l ch, (goE (grC n h false) s false st (mcG bg wt sd (n + 4 * i) (n + i) st)).2.sd = l ++ [⟨(tyE 0).ss, n + 4 * h, s.size, ch⟩]) ∧ 1 ≤ (goE (grC n h false) s false st (mcG bg wt sd (n + 4 * i) (n + i) st)).2.st ∧ s.size < n + h) := by
  intro d
  induction d with
  | zero =>
    intro i hi hk bg wt sd st hb hst
    obtain rfl : i = h := by omega
    obtain ⟨q, rfl⟩ : ∃ q, st = q + 1 := ⟨st - 1, by omega⟩
    left
    have e := end_m (n := n) (h := i) (lz := false) (s := s) (bg := bg) (wt := wt) (sd := sd) (t := ⟨(tyE 0).ss, n + 4 * i, n + i, 0⟩) (st := q) rfl
    have e' : goE (grC n i false) s false (q + 1) (mcG bg wt sd (n + 4 * i) (n + i) (q + 1)) = _ := e
    rw [e']
    exact ⟨rfl, ⟨_, _, rfl⟩, hk⟩
  | succ d ih =>
    intro i hi hk bg wt sd st hb hst
    by_cases hs : n + i < s.size
    · obtain ⟨q, rfl⟩ : ∃ q, st = q + 3 + 1 := ⟨st - 4, by omega⟩
      have e1 := step_s (n := n) (h := h) (lz := false) (s := s) (bg := bg) (wt := wt) (sd := sd) (i := i) (k := n + i) (st := q + 3) (by omega)
      have e2 := step_t (n := n) (h := h) (lz := false) ha (bg := bg) (wt := wt) (sd := sd ++ [⟨(tyE 0).ss, n + 4 * h, n + i, wt.length⟩]) (i := i) (k := n + i) (st := q) (by omega) hb hs
      have e3 : goE (grC n h false) s false (q + 3 + 1) (mcG bg wt sd (n + 4 * i) (n + i) (q + 3 + 1)) = goE (grC n h false) s false q (mcG (bg.set i ((n + i : Nat) : Int)) (wt ++ [(i, bg.getD i 0)]) (sd ++ [⟨(tyE 0).ss, n + 4 * h, n + i, wt.length⟩]) (n + 4 * (i + 1)) (n + (i + 1)) q) := e1.trans e2
      rw [e3]
      exact ih (i + 1) (by omega) (by omega) _ _ _ _ (by rw [List.length_set]; exact hb) (by omega)
    · have hs2 : n + i = s.size := by omega
      obtain ⟨q, rfl⟩ : ∃ q, st = q + 2 + 1 := ⟨st - 3, by omega⟩
      right
      have e1 := step_s (n := n) (h := h) (lz := false) (s := s) (bg := bg) (wt := wt) (sd := sd) (i := i) (k := n + i) (st := q + 2) (by omega)
      rw [hs2] at e1
      have e1' : goE (grC n h false) s false (q + 2 + 1) (mcG bg wt sd (n + 4 * i) s.size (q + 2 + 1)) = goE (grC n h false) s false (q + 2) (mcG bg wt (sd ++ [⟨(tyE 0).ss, n + 4 * h, s.size, wt.length⟩]) (n + 4 * i + 1) s.size (q + 2)) := e1
      have e2 := stop_t (n := n) (h := h) (lz := false) (s := s) (bg := bg) (wt := wt) (sd := sd ++ [⟨(tyE 0).ss, n + 4 * h, s.size, wt.length⟩]) (i := i) (st := q) (by omega)
      rw [hs2, e1']
      exact ⟨e2.1, ⟨sd, wt.length, e2.2.1⟩, by rw [e2.2.2]; omega, by omega⟩
end
end Go.Proofs.Ytibgpkkgaekakaa
namespace Go.Proofs.Ytibgpkkgaekakaa
open Go.ChangeShapes Go.WideShapes Go.ChangeAt Go.RowKit
set_option linter.unusedVariables false
set_option linter.unusedSimpArgs false
section
variable {n h : Nat} {lz : Bool} {s : ByteArray}
theorem ok_gr : ∀ d ∈ grC n h lz, d.set.ok := by
  intro d hd
  unfold grC at hd
  rcases List.mem_append.1 hd with hd | hd
  · rw [(List.mem_replicate.1 hd).2]; exact ok_zero
  rcases List.mem_append.1 hd with hd | hd
  · obtain ⟨i, _, hd⟩ := List.mem_flatMap.1 hd
    unfold grT at hd
    simp only [List.mem_cons, List.not_mem_nil, or_false] at hd
    rcases hd with rfl | rfl | rfl | rfl <;> exact ok_zero
  · simp only [List.mem_singleton] at hd; subst hd; exact ok_zero
theorem snd_gr (hn : n < 30) (hh : h < 30) : sndF (grC n h lz) (h : Int) = true := by
  unfold sndF
  rw [Bool.and_eq_true, Bool.and_eq_true]
  refine ⟨⟨?_, ?_⟩, ?_⟩
  · unfold sizeB
    rw [gr_len]
    simp
    omega
  · rw [List.all_eq_true]
    intro d hd
    unfold grC at hd
    rcases List.mem_append.1 hd with hd | hd
    · rw [(List.mem_replicate.1 hd).2]; rfl
    rcases List.mem_append.1 hd with hd | hd
    · obtain ⟨i, hi, hd⟩ := List.mem_flatMap.1 hd
      have hi' := List.mem_range.1 hi
      rw [gr_len]
      unfold grT at hd
      simp only [List.mem_cons, List.not_mem_nil, or_false] at hd
      rcases hd with rfl | rfl | rfl | rfl
      · unfold fitD plB
        rw [if_pos rfl]
        cases lz <;> simp <;> omega
      · unfold fitD plB
        simp
        omega
      · rfl
      · unfold fitD plB
        simp
        omega
    · simp only [List.mem_singleton] at hd; subst hd; rfl
  · unfold lastB grC
    rw [← List.append_assoc, List.getLast?_append]
    rfl
theorem gr_at (ha : AllA s) (hn : n < 30) (hh : h < 30) :
    (s.size < n → (atE (grC n h lz) s false 0 (newE h 5000)).1 = 0) ∧
    (n ≤ s.size → (atE (grC n h lz) s false 0 (newE h 5000)).1 = 1 ∧ ∃ nx ch, (atE (grC n h lz) s false 0 (newE h 5000)).2.t = ⟨(tyE 0).ss, nx, if lz then n else min s.size (n + h), ch⟩) := by
  have er : resE { newE h 5000 with sd := (newE h 5000).sd ++ [tyE 0] } = some (mcG (List.replicate h 0) [] [] 0 0 5000) := rfl
  have e0 : atE (grC n h lz) s false 0 (newE h 5000) = if (goE (grC n h lz) s false 5000 (mcG (List.replicate h 0) [] [] 0 0 5000)).1 = 0 then tryE (grC n h lz) s false 5001 (goE (grC n h lz) s false 5000 (mcG (List.replicate h 0) [] [] 0 0 5000)).2 else goE (grC n h lz) s false 5000 (mcG (List.replicate h 0) [] [] 0 0 5000) := by
    unfold atE
    show tryE (grC n h lz) s false (5001 + 1) _ = _
    rw [tryE, er]
    rfl
  constructor
  · intro hs
    have h1 := ph1 (n := n) (h := h) (lz := lz) ha (bg := List.replicate h 0) (wt := []) (sd := []) s.size (5000 - s.size) (by omega) (Nat.le_refl _)
    rw [show 5000 - s.size + s.size = 5000 by omega, show 5000 - s.size = (4999 - s.size) + 1 by omega, stop_a (gi_a hs) (by omega)] at h1
    rw [e0, h1, if_pos rfl]
    show (tryE (grC n h lz) s false (5000 + 1) _).1 = 0
    rw [tryE]
    rfl
  · intro hs
    have h1 := ph1 (n := n) (h := h) (lz := lz) ha (bg := List.replicate h 0) (wt := []) (sd := []) n (5000 - n) (Nat.le_refl _) hs
    rw [show 5000 - n + n = 5000 by omega] at h1
    rw [h1] at e0
    cases lz with
    | true =>
      have h2 : ∃ m : Mc, goE (grC n h true) s false (5000 - n) (mcG (List.replicate h 0) [] [] n n (5000 - n)) = (1, m) ∧ m.t.ss = (tyE 0).ss ∧ m.t.k = n := by
        rcases Nat.eq_zero_or_pos h with q | q
        · subst q
          have := end_m (n := n) (h := 0) (lz := true) (s := s) (bg := []) (wt := []) (sd := []) (t := ⟨(tyE 0).ss, n, n, 0⟩) (st := 4999 - n) (by show n = n + 4 * 0; omega)
          rw [show 4999 - n + 1 = 5000 - n by omega] at this
          exact ⟨_, this, rfl, rfl⟩
        · have e1 := step_s (n := n) (h := h) (lz := true) (s := s) (bg := List.replicate h 0) (wt := []) (sd := []) (i := 0) (k := n) (st := 4999 - n) q
          rw [show 4999 - n + 1 = 5000 - n by omega, Nat.mul_zero, Nat.add_zero] at e1
          have e2 := end_m (n := n) (h := h) (lz := true) (s := s) (bg := List.replicate h 0) (wt := []) (sd := [] ++ [⟨(tyE 0).ss, n + 1, n, 0⟩]) (t := ⟨(tyE 0).ss, n + 4 * h, n, 0⟩) (st := 4998 - n) rfl
          rw [show 4998 - n + 1 = 4999 - n by omega] at e2
          exact ⟨_, e1.trans e2, rfl, rfl⟩
      obtain ⟨m, q1, q2, q3⟩ := h2
      rw [q1, if_neg (by show ¬ (1 = 0); decide)] at e0
      rw [e0]
      refine ⟨rfl, m.t.nx, m.t.ch, ?_⟩
      show m.t = _
      rw [if_pos rfl, ← q2, ← q3]
    | false =>
      have h2 := gr_run (n := n) (h := h) ha h 0 (by omega) hs (List.replicate h 0) [] [] (5000 - n) (by simp) (by omega)
      rw [Nat.mul_zero, Nat.add_zero] at h2
      rcases h2 with ⟨q1, ⟨nx, ch, q2⟩, q3⟩ | ⟨q1, ⟨l, ch, q2⟩, q3, q4⟩
      · rw [if_neg (by rw [q1]; decide)] at e0
        rw [e0]
        refine ⟨q1, nx, ch, ?_⟩
        rw [q2, if_neg (by decide), Nat.min_eq_right q3]
      · rw [if_pos q1] at e0
        generalize goE (grC n h false) s false (5000 - n) (mcG (List.replicate h 0) [] [] n n (5000 - n)) = G at *
        obtain ⟨q, hq⟩ : ∃ q, G.2.st = q + 1 := ⟨G.2.st - 1, by omega⟩
        have er2 : resE G.2 = some (backE ch { G.2 with t := ⟨(tyE 0).ss, n + 4 * h, s.size, ch⟩, sd := l }) := by unfold resE; rw [q2]; simp
        have e3 : goE (grC n h false) s false (q + 1) (backE ch { G.2 with t := ⟨(tyE 0).ss, n + 4 * h, s.size, ch⟩, sd := l }) = (1, (backE ch { G.2 with t := ⟨(tyE 0).ss, n + 4 * h, s.size, ch⟩, sd := l }).steps q) := by
          have := end_m (n := n) (h := h) (lz := false) (s := s) (bg := (backE ch { G.2 with t := ⟨(tyE 0).ss, n + 4 * h, s.size, ch⟩, sd := l }).bg) (wt := (backE ch { G.2 with t := ⟨(tyE 0).ss, n + 4 * h, s.size, ch⟩, sd := l }).wt) (sd := l) (t := ⟨(tyE 0).ss, n + 4 * h, s.size, ch⟩) (st := q) rfl
          rw [← hq] at this ⊢
          exact this
        have e4 : tryE (grC n h false) s false 5001 G.2 = (1, (backE ch { G.2 with t := ⟨(tyE 0).ss, n + 4 * h, s.size, ch⟩, sd := l }).steps q) := by
          show tryE (grC n h false) s false (5000 + 1) G.2 = _
          rw [tryE, er2]
          have est : (backE ch { G.2 with t := ⟨(tyE 0).ss, n + 4 * h, s.size, ch⟩, sd := l }).st = q + 1 := hq
          simp only
          rw [est, e3]
          rfl
        rw [e0, e4]
        refine ⟨rfl, n + 4 * h, ch, ?_⟩
        rw [if_neg (by decide), Nat.min_eq_left (by omega)]
        rfl
theorem gr_fir (ha : AllA s) (hn : n < 30) (hh : h < 30) : (firE (grC n h lz) h s false 0 0 5000).2.2 = (decide (n ≤ s.size), 0) ∧
    (n ≤ s.size → (firE (grC n h lz) h s false 0 0 5000).1.getD 0 0 = 0 ∧ (firE (grC n h lz) h s false 0 0 5000).1.getD 1 0 = ((if lz then n else min s.size (n + h) : Nat) : Int)) := by
  have e : firE (grC n h lz) h s false 0 0 5000 = ansE (grC n h lz) h s false 1 0 5000 := fir_at (snd_gr hn hh) (j := 0) (st := 5000) (Nat.zero_le _) (Nat.le_refl _)
  obtain ⟨g1, g2⟩ := gr_at (lz := lz) ha hn hh
  have q := ans_one (grC n h lz) h s false 0 5000
  rw [e]
  by_cases hs : n ≤ s.size
  · obtain ⟨r1, nx, ch, r2⟩ := g2 hs
    obtain ⟨p1, p2⟩ := q.2 r1
    rw [p1, p2, r2, decide_eq_true hs]
    refine ⟨rfl, fun _ => ⟨rfl, ?_⟩⟩
    show max (0 : Int) ((if lz then n else min s.size (n + h) : Nat) : Int) = _
    omega
  · rw [q.1 (g1 (by omega)), decide_eq_false hs]
    exact ⟨rfl, fun z => absurd z hs⟩
end
end Go.Proofs.Ytibgpkkgaekakaa
