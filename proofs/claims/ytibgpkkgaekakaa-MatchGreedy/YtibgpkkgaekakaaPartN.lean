/- Texts that the proof of the law stands on: He0, He1, He2, Hc0, Hc1, Ht0, Ht1, Ht2, Hg0, Hg1, Hg2, Hg3. -/
import Derived.Test.YtibgpkkgaekakaaPartM
import Derived.Laws.Concat
/- Programs of one instruction, plain. -/
namespace Go.Proofs.Ytibgpkkgaekakaa
open Go.ChangeShapes Go.WideShapes Go.ChangeAt Go.RowKit
set_option linter.unusedVariables false
set_option linter.unusedSimpArgs false
/-- The program of one instruction. -/
def oneC (d : Ins) : List Ins := [d, { op := 14 }]
/-- A machine that has come behind the instruction, at a place. -/
def mcO (u : List Int) (k n : Nat) : Mc := ⟨u, [], { tyE k with nx := 1 }, [], n⟩
section
variable {s : ByteArray} {fo : Bool} {d : Ins}
theorem one_go (h4 : d.op ≠ 4) (h5 : d.op ≠ 5) (h14 : d.op ≠ 14) (u : List Int) (k n : Nat) :
    goE (oneC d) s fo (n + 2) ⟨u, [], tyE k, [], n + 2⟩ = if (passE s fo d (mcO u k (n + 1))).1 then (1, (passE s fo d (mcO u k (n + 1))).2.steps n) else (0, (passE s fo d (mcO u k (n + 1))).2) := by
  have e0 : insAt (oneC d) (⟨u, [], tyE k, [], n + 2⟩ : Mc).t.nx = d := rfl
  have e1 : doE (oneC d).length s fo d ((⟨u, [], tyE k, [], n + 2⟩ : Mc).steps (n + 1)) = passE s fo d (mcO u k (n + 1)) := by
    unfold doE
    rw [if_neg h4, if_neg h5, if_pos (by show 0 + 1 < 2; omega)]
    rfl
  rw [goE, e0, if_neg h14, e1]
  by_cases hp : (passE s fo d (mcO u k (n + 1))).1 = true
  · rw [if_pos hp, if_pos hp, goE]
    have e2 : (passE s fo d (mcO u k (n + 1))).2.t.nx = 1 := (pass_st s fo d (mcO u k (n + 1))).2.2
    rw [e2]
    rfl
  · rw [if_neg hp, if_neg hp]
theorem one_at (h4 : d.op ≠ 4) (h5 : d.op ≠ 5) (h14 : d.op ≠ 14) {m : Mc} (ha : m.sd = []) (k : Nat) {n : Nat} (hs : m.st = n + 2) :
    atE (oneC d) s fo k m = if (passE s fo d (mcO (undo m) k (n + 1))).1 then (1, (passE s fo d (mcO (undo m) k (n + 1))).2.steps n) else (0, (passE s fo d (mcO (undo m) k (n + 1))).2) := by
  have e : resE { m with sd := m.sd ++ [tyE k] } = some ⟨undo m, [], tyE k, [], n + 2⟩ := by
    unfold resE
    simp only [ha, List.nil_append, List.getLast?_singleton, Option.map_some, List.dropLast_singleton]
    rw [show (tyE k).ch = 0 from rfl, back_zero]
    rw [← hs]
    rfl
  unfold atE
  rw [tryE, e]
  simp only
  rw [one_go h4 h5 h14]
  by_cases hp : (passE s fo d (mcO (undo m) k (n + 1))).1 = true
  · rw [if_pos hp]
    rfl
  · rw [if_neg hp]
    simp only
    rw [if_pos trivial, tryE]
    have : resE (passE s fo d (mcO (undo m) k (n + 1))).2 = none := by
      unfold resE
      rw [(pass_st s fo d (mcO (undo m) k (n + 1))).2.1]
      rfl
    rw [this]
/-- An instruction that asks for something at a place, and goes on so far. -/
structure Asks (s : ByteArray) (fo : Bool) (d : Ins) (c : Nat → Bool) (adv : Nat) : Prop where
  n4 : d.op ≠ 4
  n5 : d.op ≠ 5
  n14 : d.op ≠ 14
  pass : ∀ u k n, k ≤ s.size → passE s fo d (mcO u k n) = (c k, if c k then (mcO u k n).pos (k + adv) else mcO u k n)
variable {c : Nat → Bool} {adv : Nat}
theorem Asks.at (h : Asks s fo d c adv) {m : Mc} (ha : m.sd = []) {k : Nat} (hk : k ≤ s.size) {n : Nat} (hs : m.st = n + 2) :
    atE (oneC d) s fo k m = if c k then (1, ((mcO (undo m) k n).pos (k + adv))) else (0, mcO (undo m) k (n + 1)) := by
  rw [one_at h.n4 h.n5 h.n14 ha k hs, h.pass _ _ _ hk]
  cases c k <;> rfl
theorem Asks.none (h : Asks s fo d c adv) (f : Nat) : ∀ (k : Nat) (m : Mc), m.sd = [] → f + 2 ≤ m.st → k + f ≤ s.size + 1 → (∀ j, k ≤ j → j < k + f → c j = false) → (frmE (oneC d) s fo f k m).1 = 0 := by
  induction f with
  | zero => intro k m _ _ _ _; rfl
  | succ f ih =>
    intro k m ha hs hk hc
    obtain ⟨n, hn⟩ : ∃ n, m.st = n + 2 := ⟨m.st - 2, by omega⟩
    rw [frmE, h.at ha (by omega) hn, hc k (Nat.le_refl _) (by omega)]
    exact ih (k + 1) _ rfl (by show f + 2 ≤ n + 1; omega) (by omega) fun j h1 h2 => hc j (by omega) (by omega)
theorem Asks.some (h : Asks s fo d c adv) (f : Nat) : ∀ (k : Nat) (m : Mc) (K : Nat), m.sd = [] → f + 2 ≤ m.st → k + f ≤ s.size + 1 → k ≤ K → K < k + f → c K = true → (∀ j, k ≤ j → j < K → c j = false) →
    (frmE (oneC d) s fo f k m).1 = 1 ∧ (frmE (oneC d) s fo f k m).2.1 = K ∧ (frmE (oneC d) s fo f k m).2.2.t = { tyE K with nx := 1, k := K + adv } := by
  induction f with
  | zero => intro k m K _ _ _ _ hK; omega
  | succ f ih =>
    intro k m K ha hs hk h1 h2 hK hc
    obtain ⟨n, hn⟩ : ∃ n, m.st = n + 2 := ⟨m.st - 2, by omega⟩
    rw [frmE, h.at ha (by omega) hn]
    by_cases e : k = K
    · subst e
      rw [hK]
      exact ⟨rfl, rfl, rfl⟩
    · rw [hc k (Nat.le_refl _) (by omega)]
      exact ih (k + 1) _ K rfl (by show f + 2 ≤ n + 1; omega) (by omega) (by omega) (by omega) hK fun j q1 q2 => hc j (by omega) q2
theorem mt_one (K adv : Nat) : (mtE { tyE K with nx := 1, k := K + adv } K).getD 0 0 = (K : Int) ∧ (mtE { tyE K with nx := 1, k := K + adv } K).getD 1 0 = ((K + adv : Nat) : Int) := by
  refine ⟨rfl, ?_⟩
  show max (K : Int) ((K + adv : Nat) : Int) = _
  omega
theorem fir_at {C : List Ins} {r : Int} (h : sndF C r = true) {j st : Nat} (hj : j ≤ s.size) (hst : st ≤ 5000) : firE C r s fo j j st = ansE C r.toNat s fo 1 j st := by
  unfold firE
  rw [if_pos ⟨by omega, by omega, by omega, by omega, h⟩, show ((j : Int) + 1 - (j : Int)).toNat = 1 by omega]
  rfl
theorem fir_from {C : List Ins} {r : Int} (h : sndF C r = true) {j st : Nat} (hj : j ≤ s.size) (hst : st ≤ 5000) : firE C r s fo j s.size st = ansE C r.toNat s fo (s.size + 1 - j) j st := by
  unfold firE
  rw [if_pos ⟨by omega, by omega, by omega, by omega, h⟩, show ((s.size : Int) + 1 - (j : Int)).toNat = s.size + 1 - j by omega]
  rfl
/-- At one place: is there one? -/
theorem Asks.fir (h : Asks s fo d c adv) {r : Int} (hS : sndF (oneC d) r = true) {k st : Nat} (hk : k ≤ s.size) (h2 : 2 ≤ st) (hst : st ≤ 5000) : (firE (oneC d) r s fo k k st).2.2 = (c k, 0) := by
  rw [fir_at hS hk hst]
  obtain ⟨n, hn⟩ : ∃ n, st = n + 2 := ⟨st - 2, by omega⟩
  have e := h.at (m := newE r.toNat st) rfl hk (n := n) hn
  have q := ans_one (oneC d) r.toNat s fo k st
  cases hc : c k with
  | false => rw [hc] at e; exact q.1 (by rw [e]; rfl)
  | true => rw [hc] at e; exact (q.2 (by rw [e]; rfl)).1
/-- From a place on: the first one. -/
theorem Asks.firF (h : Asks s fo d c adv) {r : Int} (hS : sndF (oneC d) r = true) {k st K : Nat} (hk : k ≤ s.size) (h2 : s.size + 3 ≤ st) (hst : st ≤ 5000) (h1 : k ≤ K) (h3 : K ≤ s.size) (hK : c K = true) (hc : ∀ j, k ≤ j → j < K → c j = false) :
    (firE (oneC d) r s fo k s.size st).2.2 = (true, 0) ∧ (firE (oneC d) r s fo k s.size st).1.getD 0 0 = (K : Int) ∧ (firE (oneC d) r s fo k s.size st).1.getD 1 0 = ((K + adv : Nat) : Int) := by
  rw [fir_from hS hk hst]
  obtain ⟨q1, q2, q3⟩ := h.some (s.size + 1 - k) k (newE r.toNat st) K rfl (by show s.size + 1 - k + 2 ≤ st; omega) (by omega) h1 (by omega) hK hc
  unfold ansE
  rw [if_pos q1, q2, q3]
  exact ⟨rfl, mt_one K adv⟩
theorem Asks.firN (h : Asks s fo d c adv) {r : Int} (hS : sndF (oneC d) r = true) {k st : Nat} (hk : k ≤ s.size) (h2 : s.size + 3 ≤ st) (hst : st ≤ 5000) (hc : ∀ j, k ≤ j → j ≤ s.size → c j = false) : (firE (oneC d) r s fo k s.size st).2.2 = (false, 0) := by
  rw [fir_from hS hk hst]
  have q1 := h.none (s.size + 1 - k) k (newE r.toNat st) rfl (by show s.size + 1 - k + 2 ≤ st; omega) (by omega) fun j a b => hc j a (by omega)
  unfold ansE
  rw [q1]
  rfl
theorem asks_bol (s : ByteArray) (fo : Bool) : Asks s fo { op := 8 } (fun k => k == 0) 0 := ⟨by decide, by decide, by decide, fun u k n _ => by
  show (k == 0, mcO u k n) = _
  congr 1
  split <;> rfl⟩
theorem asks_eol (s : ByteArray) (fo : Bool) : Asks s fo { op := 9 } (fun k => k == s.size) 0 := ⟨by decide, by decide, by decide, fun u k n _ => by
  show (k == s.size, mcO u k n) = _
  congr 1
  split <;> rfl⟩
theorem asks_bow (s : ByteArray) (fo : Bool) : Asks s fo { op := 10 } (fun k => wrdAt s k && !wrdAt s (k - 1 : Int)) 0 := ⟨by decide, by decide, by decide, fun u k n _ => by
  show (wrdAt s k && !wrdAt s (k - 1 : Int), mcO u k n) = _
  congr 1
  split <;> rfl⟩
theorem asks_eow (s : ByteArray) (fo : Bool) : Asks s fo { op := 11 } (fun k => wrdAt s (k - 1 : Int) && !wrdAt s k) 0 := ⟨by decide, by decide, by decide, fun u k n _ => by
  show (wrdAt s (k - 1 : Int) && !wrdAt s k, mcO u k n) = _
  congr 1
  split <;> rfl⟩
end
end Go.Proofs.Ytibgpkkgaekakaa
/- MatchEdges: the walk. -/
namespace Go.Proofs.Ytibgpkkgaekakaa
open Go.ChangeShapes Go.WideShapes Go.ChangeAt Go.RowKit
set_option linter.unusedVariables false
set_option linter.unusedSimpArgs false
theorem ok_one {d : Ins} (h : d.set.ok) : ∀ e ∈ oneC d, e.set.ok := by
  intro e he
  simp only [oneC, List.mem_cons, List.not_mem_nil, or_false] at he
  rcases he with rfl | rfl
  · exact h
  · exact ok_zero
/-- What compiled comes to, where it is one instruction. -/
theorem compiledO {s : ByteArray} {f : Bool} {d : Ins} (h : cpdE s f = (oneC d, 0, f)) (w : World) : Calls Try.prog 12 #[.string s, .bool f] w fun e w' => Kp w w' ∧ ∃ ca cc, e = .returned (.agg #[.slice ca 2 cc, .int .i64 0, .bool f]) ∧ Cd w' (.slice ca 2 cc) (oneC d) := by
  refine Calls.mono (compiled_any s f w) ?_
  rw [h]
  rintro e w' ⟨q1, cv, rfl, q2⟩
  obtain ⟨ca, cc, rfl, u1, u2⟩ := owns_form q2
  exact ⟨q1, ca, cc, rfl, row_cd q2⟩
theorem one_bol : cpdE ⟨#[94]⟩ false = (oneC { op := 8 }, 0, false) := by rw [cpd_eq]; kernel_rfl
theorem one_eol : cpdE ⟨#[36]⟩ false = (oneC { op := 9 }, 0, false) := by rw [cpd_eq]; kernel_rfl
theorem one_bow : cpdE ⟨#[92, 60]⟩ false = (oneC { op := 10 }, 0, false) := by rw [cpd_eq]; kernel_rfl
theorem one_eow : cpdE ⟨#[92, 62]⟩ false = (oneC { op := 11 }, 0, false) := by rw [cpd_eq]; kernel_rfl
theorem snd_bol : sndF (oneC { op := 8 }) 0 = true := by kernel_rfl
theorem snd_eol : sndF (oneC { op := 9 }) 0 = true := by kernel_rfl
theorem snd_bow : sndF (oneC { op := 10 }) 0 = true := by kernel_rfl
theorem snd_eow : sndF (oneC { op := 11 }) 0 = true := by kernel_rfl
set_option maxHeartbeats 8000000 in
set_option maxRecDepth 100000 in
theorem edges_law (line : ByteArray) (at_ : Int) (hat : Rg at_) (w : World) : Calls Try.prog 3 #[.string line, .int .i64 at_] w fun e w' => e = .returned (.bool true) ∧ Kp w w' := by
  unfold Rg at hat
  by_cases h1 : 200 < line.size
  · have dlinea : decide ((line.size : Int) > 200) = true := decide_eq_true (by omega)
    have dlineb : decide ((200 : Int) < (line.size : Int)) = true := decide_eq_true (by omega)
    have dlinec : decide (200 < line.size) = true := decide_eq_true (by omega)
    clear h1
    go_enter Try.func3, Try.ntmps3
    go_wp2_with (go_at_call 10; refine Calls.mono (known_m _) ?_; rintro e w1 ⟨rfl, q⟩; have H1 : Hid (Kp w w1) := q; clear q)
    go_ret
    exact ⟨rfl, H1.out⟩
  have dlinea : decide ((line.size : Int) > 200) = false := decide_eq_false (by omega)
  have dlineb : decide ((200 : Int) < (line.size : Int)) = false := decide_eq_false (by omega)
  have dlinec : decide (200 < line.size) = false := decide_eq_false (by omega)
  have hsz : line.size ≤ 200 := Nat.le_of_not_lt h1
  clear h1
  obtain ⟨k, hk⟩ : ∃ A : Nat, Int.tmod (max at_ 0) ((line.size : Int) + 1) = (A : Int) := ⟨(Int.tmod (max at_ 0) ((line.size : Int) + 1)).toNat, by rw [Int.toNat_of_nonneg (Int.tmod_nonneg _ (by omega))]⟩
  have hk1 : k ≤ line.size := by have := Int.tmod_lt_of_pos (max at_ 0) (show (0 : Int) < (line.size : Int) + 1 by omega); omega
  obtain ⟨⟨lA, nA, sA, eA⟩, hYA⟩ : ∃ ZZ, firE (oneC { op := 8 }) 0 line false k k 50 = ZZ := ⟨_, rfl⟩
  have qA := (asks_bol line false).fir snd_bol (k := k) (st := 50) hk1 (by omega) (by omega)
  rw [show ((50 : Nat) : Int) = 50 from rfl, hYA] at qA
  simp only [Prod.mk.injEq] at qA
  obtain ⟨hsA, rfl⟩ := qA
  obtain ⟨LA, hLA⟩ : ∃ L, slv lA = L := ⟨_, rfl⟩
  have hlA : lA.length = 22 := by have := firE_len (oneC { op := 8 }) 0 line false k k 50; rw [hYA] at this; exact this
  have HLA : Hid (LA.length = 22 ∧ (∀ v ∈ LA, v.oneCell' = true)) := by rw [← hLA]; exact ⟨by rw [slv_len]; exact hlA, slv_one _⟩
  have HYA : Hid (ansV (firE (oneC { op := 8 }) 0 line false k k 50) = .tuple #[.agg LA.toArray, .int .i64 nA, .bool sA, .int .u16 0]) := by show _ = _; rw [hYA, ← hLA]; rfl
  obtain ⟨⟨lB, nB, sB, eB⟩, hYB⟩ : ∃ ZZ, firE (oneC { op := 9 }) 0 line false k k 50 = ZZ := ⟨_, rfl⟩
  have qB := (asks_eol line false).fir snd_eol (k := k) (st := 50) hk1 (by omega) (by omega)
  rw [show ((50 : Nat) : Int) = 50 from rfl, hYB] at qB
  simp only [Prod.mk.injEq] at qB
  obtain ⟨hsB, rfl⟩ := qB
  obtain ⟨LB, hLB⟩ : ∃ L, slv lB = L := ⟨_, rfl⟩
  have hlB : lB.length = 22 := by have := firE_len (oneC { op := 9 }) 0 line false k k 50; rw [hYB] at this; exact this
  have HLB : Hid (LB.length = 22 ∧ (∀ v ∈ LB, v.oneCell' = true)) := by rw [← hLB]; exact ⟨by rw [slv_len]; exact hlB, slv_one _⟩
  have HYB : Hid (ansV (firE (oneC { op := 9 }) 0 line false k k 50) = .tuple #[.agg LB.toArray, .int .i64 nB, .bool sB, .int .u16 0]) := by show _ = _; rw [hYB, ← hLB]; rfl
  obtain ⟨⟨lD, nD, sD, eD⟩, hYD⟩ : ∃ ZZ, firE (oneC { op := 9 }) 0 line false k line.size 5000 = ZZ := ⟨_, rfl⟩
  have qD := (asks_eol line false).firF snd_eol (k := k) (st := 5000) (K := line.size) hk1 (by omega) (by omega) hk1 (Nat.le_refl _) (by simp) (fun j _ h => by simp; omega)
  rw [show ((5000 : Nat) : Int) = 5000 from rfl, hYD] at qD
  simp only [Prod.mk.injEq] at qD
  obtain ⟨⟨hsD, rfl⟩, r0, r1⟩ := qD
  obtain ⟨LD, hLD⟩ : ∃ L, slv lD = L := ⟨_, rfl⟩
  have hlD : lD.length = 22 := by have := firE_len (oneC { op := 9 }) 0 line false k line.size 5000; rw [hYD] at this; exact this
  have HLD : Hid (LD.length = 22 ∧ (∀ v ∈ LD, v.oneCell' = true)) := by rw [← hLD]; exact ⟨by rw [slv_len]; exact hlD, slv_one _⟩
  have HYD : Hid (ansV (firE (oneC { op := 9 }) 0 line false k line.size 5000) = .tuple #[.agg LD.toArray, .int .i64 nD, .bool sD, .int .u16 0]) := by show _ = _; rw [hYD, ← hLD]; rfl
  have HD : Hid (LD[0]? = some (.int .i64 line.size) ∧ LD[1]? = some (.int .i64 line.size)) := by
    rw [← hLD]
    exact ⟨by rw [slv_get (by omega) 0, r0], by rw [slv_get (by omega) 0, r1]; rfl⟩
  clear hYA hYB hYD hLA hLB hLD hlA hlB hlD r0 r1
  subst hsD
  have k0 : ((k : Int) == 0) = sA := by rw [hsA, Bool.eq_iff_iff]; simp
  have k1 : ((k : Int) == (line.size : Int)) = sB := by rw [hsB, Bool.eq_iff_iff]; simp; try omega
  clear hsA hsB
  go_enter Try.func3, Try.ntmps3
  go_upto_region 4 with (go_at_call 10; refine Calls.mono (known_m _) ?_; rintro e w1 ⟨rfl, q⟩; have H1 : Hid (Kp w w1) := q; clear q)
  clear hk
  go_upto_region 5 with (first | (go_at_call 12; refine Calls.mono (compiledO one_bol _) ?_; rintro e uA ⟨q1, caA, ccA, rfl, q2⟩; have HUA : Hid (Kp w1 uA ∧ Cd uA (.slice caA 2 ccA) (oneC _)) := ⟨q1, q2⟩; clear q1 q2) | (go_at_call 11; refine Calls.mono (at_m HUA.out.2 (ok_one ok_zero) false 0 line (by omega) k 50) ?_; rintro e tA ⟨q1, q2⟩; rw [HYA.out] at q1; subst q1; have HTA : Hid (Kp w1 tA) := kp_trans HUA.out.1 q2; clear q2; obtain ⟨mA, hmA⟩ : ∃ b, tA.heap.size = b := ⟨_, rfl⟩; obtain ⟨zA, hzA⟩ : ∃ W, tA.alloc (.cells #[.int .i64 0, .int .i64 0, .int .i64 0, .int .i64 0, .int .i64 0, .int .i64 0, .int .i64 0, .int .i64 0, .int .i64 0, .int .i64 0, .int .i64 0, .int .i64 0, .int .i64 0, .int .i64 0, .int .i64 0, .int .i64 0, .int .i64 0, .int .i64 0, .int .i64 0, .int .i64 0, .int .i64 0, .int .i64 0] 25) = W := ⟨_, rfl⟩; have HZA : Hid (Kp w1 zA ∧ Lc 25 mA z22 zA ∧ tA.heap.size = mA) := (by rw [← hzA, ← hmA]; exact ⟨kp_trans HTA.out (kp_alloc _ _), Lc.new tA z22 _, rfl⟩)) | (refine wpList_store_box HZA.out.2.1 0 LA rfl 25 (.tmp 6) (.tmp 37) rfl rfl rfl (by rw [Nat.zero_add, HLA.out.1]; exact Nat.le_refl _) (by rw [HLA.out.1]; exact sizeMatch) HLA.out.2 (sets_full _ _ (by rw [HLA.out.1]; rfl)) ?_; intro W2 q1 q2 q3; have HW2 : Hid (Kp w1 W2 ∧ Lc 25 mA LA W2) := ⟨HZA.out.1.trans (q2.below HZA.out.1.size fun j hj q => by unfold On at q; have h1 := HZA.out.2.2; have h2 := HTA.out.size; omega), q1⟩; clear q1 q2 q3))
  clear hmA hzA
  go_upto_region 6 with (first | (go_at_call 12; refine Calls.mono (compiledO one_eol _) ?_; rintro e uB ⟨q1, caB, ccB, rfl, q2⟩; have HUB : Hid (Kp W2 uB ∧ Cd uB (.slice caB 2 ccB) (oneC _)) := ⟨q1, q2⟩; clear q1 q2) | (go_at_call 11; refine Calls.mono (at_m HUB.out.2 (ok_one ok_zero) false 0 line (by omega) k 50) ?_; rintro e tB ⟨q1, q2⟩; rw [HYB.out] at q1; subst q1; have HTB : Hid (Kp W2 tB) := kp_trans HUB.out.1 q2; clear q2; obtain ⟨mB, hmB⟩ : ∃ b, tB.heap.size = b := ⟨_, rfl⟩; obtain ⟨zB, hzB⟩ : ∃ W, tB.alloc (.cells #[.int .i64 0, .int .i64 0, .int .i64 0, .int .i64 0, .int .i64 0, .int .i64 0, .int .i64 0, .int .i64 0, .int .i64 0, .int .i64 0, .int .i64 0, .int .i64 0, .int .i64 0, .int .i64 0, .int .i64 0, .int .i64 0, .int .i64 0, .int .i64 0, .int .i64 0, .int .i64 0, .int .i64 0, .int .i64 0] 25) = W := ⟨_, rfl⟩; have HZB : Hid (Kp W2 zB ∧ Lc 25 mB z22 zB ∧ tB.heap.size = mB) := (by rw [← hzB, ← hmB]; exact ⟨kp_trans HTB.out (kp_alloc _ _), Lc.new tB z22 _, rfl⟩)) | (refine wpList_store_box HZB.out.2.1 0 LB rfl 25 (.tmp 10) (.tmp 46) rfl rfl rfl (by rw [Nat.zero_add, HLB.out.1]; exact Nat.le_refl _) (by rw [HLB.out.1]; exact sizeMatch) HLB.out.2 (sets_full _ _ (by rw [HLB.out.1]; rfl)) ?_; intro W3 q1 q2 q3; have HW3 : Hid (Kp W2 W3 ∧ Lc 25 mB LB W3) := ⟨HZB.out.1.trans (q2.below HZB.out.1.size fun j hj q => by unfold On at q; have h1 := HZB.out.2.2; have h2 := HTB.out.size; omega), q1⟩; clear q1 q2 q3))
  clear hmB hzB
  go_upto_region 7 with (first | (go_at_call 12; refine Calls.mono (compiledO one_eol _) ?_; rintro e uD ⟨q1, caD, ccD, rfl, q2⟩; have HUD : Hid (Kp W3 uD ∧ Cd uD (.slice caD 2 ccD) (oneC _)) := ⟨q1, q2⟩; clear q1 q2) | (go_at_call 13; refine Calls.mono (from_m HUD.out.2 (ok_one ok_zero) false 0 line (by omega) k 5000) ?_; rintro e tD ⟨q1, q2⟩; rw [HYD.out] at q1; subst q1; have HTD : Hid (Kp W3 tD) := kp_trans HUD.out.1 q2; clear q2; obtain ⟨mD, hmD⟩ : ∃ b, tD.heap.size = b := ⟨_, rfl⟩; obtain ⟨zD, hzD⟩ : ∃ W, tD.alloc (.cells #[.int .i64 0, .int .i64 0, .int .i64 0, .int .i64 0, .int .i64 0, .int .i64 0, .int .i64 0, .int .i64 0, .int .i64 0, .int .i64 0, .int .i64 0, .int .i64 0, .int .i64 0, .int .i64 0, .int .i64 0, .int .i64 0, .int .i64 0, .int .i64 0, .int .i64 0, .int .i64 0, .int .i64 0, .int .i64 0] 25) = W := ⟨_, rfl⟩; have HZD : Hid (Kp W3 zD ∧ Lc 25 mD z22 zD ∧ tD.heap.size = mD) := (by rw [← hzD, ← hmD]; exact ⟨kp_trans HTD.out (kp_alloc _ _), Lc.new tD z22 _, rfl⟩)) | (refine wpList_store_box HZD.out.2.1 0 LD rfl 25 (.tmp 14) (.tmp 55) rfl rfl rfl (by rw [Nat.zero_add, HLD.out.1]; exact Nat.le_refl _) (by rw [HLD.out.1]; exact sizeMatch) HLD.out.2 (sets_full _ _ (by rw [HLD.out.1]; rfl)) ?_; intro W4 q1 q2 q3; have HW4 : Hid (Kp W3 W4 ∧ Lc 25 mD LD W4) := ⟨HZD.out.1.trans (q2.below HZD.out.1.size fun j hj q => by unfold On at q; have h1 := HZD.out.2.2; have h2 := HTD.out.size; omega), q1⟩; clear q1 q2 q3))
  clear hmD hzD
  have g0 : W4.cell? ⟨mD, 0, none⟩ = some (.int .i64 line.size) := HW4.out.2.at HD.out.1
  have g1 : W4.cell? ⟨mD, 1, none⟩ = some (.int .i64 line.size) := HW4.out.2.at HD.out.2
  go_wp2_with fail
  go_ret
  exact ⟨by cases sA <;> cases sB <;> rfl, kp_trans H1.out (kp_trans HW2.out.1 (kp_trans HW3.out.1 HW4.out.1))⟩
end Go.Proofs.Ytibgpkkgaekakaa
/- MatchWords: the walk. -/
namespace Go.Proofs.Ytibgpkkgaekakaa
open Go.ChangeShapes Go.WideShapes Go.ChangeAt Go.RowKit
set_option linter.unusedVariables false
set_option linter.unusedSimpArgs false
theorem wrd_in {s : ByteArray} {j c : Nat} (h : j < s.size) (hc : (s[j]).toNat = c) : wrdAt s (j : Int) = isB 119 (c : Int) := by
  unfold wrdAt
  rw [decide_eq_true (by omega), decide_eq_true (by omega), Int.toNat_natCast, getElem?_pos s j h]
  simp [← hc]
theorem wrd_out {s : ByteArray} {k : Int} (h : k < 0 ∨ (s.size : Int) ≤ k) : wrdAt s k = false := by
  unfold wrdAt
  by_cases h0 : 0 ≤ k
  · rw [decide_eq_false (show ¬ k < (s.size : Int) by omega)]; simp
  · rw [decide_eq_false h0]; rfl
set_option maxHeartbeats 16000000 in
set_option maxRecDepth 100000 in
theorem words_law (line : ByteArray) (at_ : Int) (hat : Rg at_) (w : World) : Calls Try.prog 7 #[.string line, .int .i64 at_] w fun e w' => e = .returned (.bool true) ∧ Kp w w' := by
  unfold Rg at hat
  by_cases h1 : 200 < line.size
  · have dlinea : decide ((line.size : Int) > 200) = true := decide_eq_true (by omega)
    have dlineb : decide ((200 : Int) < (line.size : Int)) = true := decide_eq_true (by omega)
    have dlinec : decide (200 < line.size) = true := decide_eq_true (by omega)
    clear h1
    go_enter Try.func7, Try.ntmps7
    go_wp2_with (go_at_call 10; refine Calls.mono (known_m _) ?_; rintro e w1 ⟨rfl, q⟩; have H1 : Hid (Kp w w1) := q; clear q)
    go_ret
    exact ⟨rfl, H1.out⟩
  have dlinea : decide ((line.size : Int) > 200) = false := decide_eq_false (by omega)
  have dlineb : decide ((200 : Int) < (line.size : Int)) = false := decide_eq_false (by omega)
  have dlinec : decide (200 < line.size) = false := decide_eq_false (by omega)
  have hsz : line.size ≤ 200 := Nat.le_of_not_lt h1
  clear h1
  obtain ⟨k, hk⟩ : ∃ A : Nat, Int.tmod (max at_ 0) ((line.size : Int) + 1) = (A : Int) := ⟨(Int.tmod (max at_ 0) ((line.size : Int) + 1)).toNat, by rw [Int.toNat_of_nonneg (Int.tmod_nonneg _ (by omega))]⟩
  have hk1 : k ≤ line.size := by have := Int.tmod_lt_of_pos (max at_ 0) (show (0 : Int) < (line.size : Int) + 1 by omega); omega
  obtain ⟨⟨lA, nA, sA, eA⟩, hYA⟩ : ∃ ZZ, firE (oneC { op := 10 }) 0 line false k k 50 = ZZ := ⟨_, rfl⟩
  have qA := (asks_bow line false).fir snd_bow (k := k) (st := 50) hk1 (by omega) (by omega)
  rw [show ((50 : Nat) : Int) = 50 from rfl, hYA] at qA
  simp only [Prod.mk.injEq] at qA
  obtain ⟨hsA, rfl⟩ := qA
  obtain ⟨LA, hLA⟩ : ∃ L, slv lA = L := ⟨_, rfl⟩
  have hlA : lA.length = 22 := by have := firE_len (oneC { op := 10 }) 0 line false k k 50; rw [hYA] at this; exact this
  have HLA : Hid (LA.length = 22 ∧ (∀ v ∈ LA, v.oneCell' = true)) := by rw [← hLA]; exact ⟨by rw [slv_len]; exact hlA, slv_one _⟩
  have HYA : Hid (ansV (firE (oneC { op := 10 }) 0 line false k k 50) = .tuple #[.agg LA.toArray, .int .i64 nA, .bool sA, .int .u16 0]) := by show _ = _; rw [hYA, ← hLA]; rfl
  obtain ⟨⟨lB, nB, sB, eB⟩, hYB⟩ : ∃ ZZ, firE (oneC { op := 11 }) 0 line false k k 50 = ZZ := ⟨_, rfl⟩
  have qB := (asks_eow line false).fir snd_eow (k := k) (st := 50) hk1 (by omega) (by omega)
  rw [show ((50 : Nat) : Int) = 50 from rfl, hYB] at qB
  simp only [Prod.mk.injEq] at qB
  obtain ⟨hsB, rfl⟩ := qB
  obtain ⟨LB, hLB⟩ : ∃ L, slv lB = L := ⟨_, rfl⟩
  have hlB : lB.length = 22 := by have := firE_len (oneC { op := 11 }) 0 line false k k 50; rw [hYB] at this; exact this
  have HLB : Hid (LB.length = 22 ∧ (∀ v ∈ LB, v.oneCell' = true)) := by rw [← hLB]; exact ⟨by rw [slv_len]; exact hlB, slv_one _⟩
  have HYB : Hid (ansV (firE (oneC { op := 11 }) 0 line false k k 50) = .tuple #[.agg LB.toArray, .int .i64 nB, .bool sB, .int .u16 0]) := by show _ = _; rw [hYB, ← hLB]; rfl
  obtain ⟨P, hP⟩ : ∃ P, wrdAt line (k : Int) = P := ⟨_, rfl⟩
  obtain ⟨Q, hQ⟩ : ∃ Q, wrdAt line ((k : Int) - 1) = Q := ⟨_, rfl⟩
  rw [hP, hQ] at hsA hsB
  subst hsA
  subst hsB
  clear hYA hYB hLA hLB hlA hlB
  by_cases hk0 : k = 0
  · have hQF : Q = false := by rw [← hQ]; exact wrd_out (by omega)
    subst hQF
    have d0 : decide ((k : Int) > 0) = false := decide_eq_false (by omega)
    have d0' : decide ((0 : Int) < (k : Int)) = false := decide_eq_false (by omega)
    have d0'' : decide (0 < k) = false := decide_eq_false (by omega)
    have HQI : Hid True := trivial
    by_cases hks : k = line.size
    · have hPF : P = false := by rw [← hP]; exact wrd_out (by omega)
      subst hPF
      have d1 : decide ((k : Int) < (line.size : Int)) = false := decide_eq_false (by omega)
      have d1' : decide (k < line.size) = false := decide_eq_false (by omega)
      have HPI : Hid True := trivial
      clear hP hQ hks
      clear hk0
      go_enter Try.func7, Try.ntmps7
      go_upto_region 4 with (go_at_call 10; refine Calls.mono (known_m _) ?_; rintro e w1 ⟨rfl, q⟩; have H1 : Hid (Kp w w1) := q; clear q)
      clear hk
      go_upto_region 5 with (go_at_call 16; refine Calls.mono (HQI.out _) ?_; rintro e v1 ⟨rfl, q⟩; have HV1 : Hid (Kp w1 v1) := q; clear q)
      have HVA : Hid (Kp w w1) := H1.out
      obtain ⟨v1, hv1⟩ : ∃ z, w1 = z := ⟨_, rfl⟩
      subst hv1
      go_upto_region 6 with (go_at_call 16; refine Calls.mono (HPI.out _) ?_; rintro e V1 ⟨rfl, q⟩; have HV2 : Hid (Kp w V1) := kp_trans HVA.out q; clear q)
      obtain ⟨V1, hV1⟩ : ∃ z, w1 = z := ⟨_, rfl⟩
      rw [hV1] at HVA ⊢
      have HVV : Hid (Kp w V1) := HVA.out
      go_upto_region 7 with (first | (go_at_call 12; refine Calls.mono (compiledO one_bow _) ?_; rintro e uA ⟨q1, caA, ccA, rfl, q2⟩; have HUA : Hid (Kp V1 uA ∧ Cd uA (.slice caA 2 ccA) (oneC _)) := ⟨q1, q2⟩; clear q1 q2) | (go_at_call 11; refine Calls.mono (at_m HUA.out.2 (ok_one ok_zero) false 0 line (by omega) k 50) ?_; rintro e tA ⟨q1, q2⟩; rw [HYA.out] at q1; subst q1; have HTA : Hid (Kp V1 tA) := kp_trans HUA.out.1 q2; clear q2; obtain ⟨mA, hmA⟩ : ∃ b, tA.heap.size = b := ⟨_, rfl⟩; obtain ⟨zA, hzA⟩ : ∃ W, tA.alloc (.cells #[.int .i64 0, .int .i64 0, .int .i64 0, .int .i64 0, .int .i64 0, .int .i64 0, .int .i64 0, .int .i64 0, .int .i64 0, .int .i64 0, .int .i64 0, .int .i64 0, .int .i64 0, .int .i64 0, .int .i64 0, .int .i64 0, .int .i64 0, .int .i64 0, .int .i64 0, .int .i64 0, .int .i64 0, .int .i64 0] 25) = W := ⟨_, rfl⟩; have HZA : Hid (Kp V1 zA ∧ Lc 25 mA z22 zA ∧ tA.heap.size = mA) := (by rw [← hzA, ← hmA]; exact ⟨kp_trans HTA.out (kp_alloc _ _), Lc.new tA z22 _, rfl⟩)) | (refine wpList_store_box HZA.out.2.1 0 LA rfl 25 (.tmp 8) (.tmp 54) rfl rfl rfl (by rw [Nat.zero_add, HLA.out.1]; exact Nat.le_refl _) (by rw [HLA.out.1]; exact sizeMatch) HLA.out.2 (sets_full _ _ (by rw [HLA.out.1]; rfl)) ?_; intro W2 q1 q2 q3; have HW2 : Hid (Kp V1 W2 ∧ Lc 25 mA LA W2) := ⟨HZA.out.1.trans (q2.below HZA.out.1.size fun j hj q => by unfold On at q; have h1 := HZA.out.2.2; have h2 := HTA.out.size; omega), q1⟩; clear q1 q2 q3))
      clear hmA hzA
      go_upto_region 8 with (first | (go_at_call 12; refine Calls.mono (compiledO one_eow _) ?_; rintro e uB ⟨q1, caB, ccB, rfl, q2⟩; have HUB : Hid (Kp W2 uB ∧ Cd uB (.slice caB 2 ccB) (oneC _)) := ⟨q1, q2⟩; clear q1 q2) | (go_at_call 11; refine Calls.mono (at_m HUB.out.2 (ok_one ok_zero) false 0 line (by omega) k 50) ?_; rintro e tB ⟨q1, q2⟩; rw [HYB.out] at q1; subst q1; have HTB : Hid (Kp W2 tB) := kp_trans HUB.out.1 q2; clear q2; obtain ⟨mB, hmB⟩ : ∃ b, tB.heap.size = b := ⟨_, rfl⟩; obtain ⟨zB, hzB⟩ : ∃ W, tB.alloc (.cells #[.int .i64 0, .int .i64 0, .int .i64 0, .int .i64 0, .int .i64 0, .int .i64 0, .int .i64 0, .int .i64 0, .int .i64 0, .int .i64 0, .int .i64 0, .int .i64 0, .int .i64 0, .int .i64 0, .int .i64 0, .int .i64 0, .int .i64 0, .int .i64 0, .int .i64 0, .int .i64 0, .int .i64 0, .int .i64 0] 25) = W := ⟨_, rfl⟩; have HZB : Hid (Kp W2 zB ∧ Lc 25 mB z22 zB ∧ tB.heap.size = mB) := (by rw [← hzB, ← hmB]; exact ⟨kp_trans HTB.out (kp_alloc _ _), Lc.new tB z22 _, rfl⟩)) | (refine wpList_store_box HZB.out.2.1 0 LB rfl 25 (.tmp 12) (.tmp 63) rfl rfl rfl (by rw [Nat.zero_add, HLB.out.1]; exact Nat.le_refl _) (by rw [HLB.out.1]; exact sizeMatch) HLB.out.2 (sets_full _ _ (by rw [HLB.out.1]; rfl)) ?_; intro W3 q1 q2 q3; have HW3 : Hid (Kp W2 W3 ∧ Lc 25 mB LB W3) := ⟨HZB.out.1.trans (q2.below HZB.out.1.size fun j hj q => by unfold On at q; have h1 := HZB.out.2.2; have h2 := HTB.out.size; omega), q1⟩; clear q1 q2 q3))
      clear hmB hzB
      skip
      all_goals
        go_wp2_with fail
        go_ret
        exact ⟨rfl, kp_trans HVV.out (kp_trans HW2.out.1 HW3.out.1)⟩
    · have hkl : k < line.size := by omega
      have d1 : decide ((k : Int) < (line.size : Int)) = true := decide_eq_true (by omega)
      have d1' : decide (k < line.size) = true := decide_eq_true hkl
      obtain ⟨cp, hcp⟩ : ∃ c, (line[k]).toNat = c := ⟨_, rfl⟩
      have HPI : Hid (∀ z, Calls Try.prog 16 #[.int .u8 119, .int .u8 cp] z fun e w' => e = .returned (.bool P) ∧ Kp z w') := by
        intro z
        have := rIs_any 119 (cp : Int) z
        rw [← wrd_in hkl hcp, hP] at this
        exact Calls.mono this (by rintro e w' ⟨q1, q2⟩; rw [q2]; exact ⟨q1, Below.refl _ _⟩)
      clear hP hQ hks
      clear hk0
      go_enter Try.func7, Try.ntmps7
      go_upto_region 4 with (go_at_call 10; refine Calls.mono (known_m _) ?_; rintro e w1 ⟨rfl, q⟩; have H1 : Hid (Kp w w1) := q; clear q)
      clear hk
      go_upto_region 5 with (go_at_call 16; refine Calls.mono (HQI.out _) ?_; rintro e v1 ⟨rfl, q⟩; have HV1 : Hid (Kp w1 v1) := q; clear q)
      have HVA : Hid (Kp w w1) := H1.out
      obtain ⟨v1, hv1⟩ : ∃ z, w1 = z := ⟨_, rfl⟩
      subst hv1
      go_upto_region 6 with (go_at_call 16; refine Calls.mono (HPI.out _) ?_; rintro e V1 ⟨rfl, q⟩; have HV2 : Hid (Kp w V1) := kp_trans HVA.out q; clear q)
      have HVV : Hid (Kp w V1) := HV2.out
      go_upto_region 7 with (first | (go_at_call 12; refine Calls.mono (compiledO one_bow _) ?_; rintro e uA ⟨q1, caA, ccA, rfl, q2⟩; have HUA : Hid (Kp V1 uA ∧ Cd uA (.slice caA 2 ccA) (oneC _)) := ⟨q1, q2⟩; clear q1 q2) | (go_at_call 11; refine Calls.mono (at_m HUA.out.2 (ok_one ok_zero) false 0 line (by omega) k 50) ?_; rintro e tA ⟨q1, q2⟩; rw [HYA.out] at q1; subst q1; have HTA : Hid (Kp V1 tA) := kp_trans HUA.out.1 q2; clear q2; obtain ⟨mA, hmA⟩ : ∃ b, tA.heap.size = b := ⟨_, rfl⟩; obtain ⟨zA, hzA⟩ : ∃ W, tA.alloc (.cells #[.int .i64 0, .int .i64 0, .int .i64 0, .int .i64 0, .int .i64 0, .int .i64 0, .int .i64 0, .int .i64 0, .int .i64 0, .int .i64 0, .int .i64 0, .int .i64 0, .int .i64 0, .int .i64 0, .int .i64 0, .int .i64 0, .int .i64 0, .int .i64 0, .int .i64 0, .int .i64 0, .int .i64 0, .int .i64 0] 25) = W := ⟨_, rfl⟩; have HZA : Hid (Kp V1 zA ∧ Lc 25 mA z22 zA ∧ tA.heap.size = mA) := (by rw [← hzA, ← hmA]; exact ⟨kp_trans HTA.out (kp_alloc _ _), Lc.new tA z22 _, rfl⟩)) | (refine wpList_store_box HZA.out.2.1 0 LA rfl 25 (.tmp 8) (.tmp 54) rfl rfl rfl (by rw [Nat.zero_add, HLA.out.1]; exact Nat.le_refl _) (by rw [HLA.out.1]; exact sizeMatch) HLA.out.2 (sets_full _ _ (by rw [HLA.out.1]; rfl)) ?_; intro W2 q1 q2 q3; have HW2 : Hid (Kp V1 W2 ∧ Lc 25 mA LA W2) := ⟨HZA.out.1.trans (q2.below HZA.out.1.size fun j hj q => by unfold On at q; have h1 := HZA.out.2.2; have h2 := HTA.out.size; omega), q1⟩; clear q1 q2 q3))
      clear hmA hzA
      go_upto_region 8 with (first | (go_at_call 12; refine Calls.mono (compiledO one_eow _) ?_; rintro e uB ⟨q1, caB, ccB, rfl, q2⟩; have HUB : Hid (Kp W2 uB ∧ Cd uB (.slice caB 2 ccB) (oneC _)) := ⟨q1, q2⟩; clear q1 q2) | (go_at_call 11; refine Calls.mono (at_m HUB.out.2 (ok_one ok_zero) false 0 line (by omega) k 50) ?_; rintro e tB ⟨q1, q2⟩; rw [HYB.out] at q1; subst q1; have HTB : Hid (Kp W2 tB) := kp_trans HUB.out.1 q2; clear q2; obtain ⟨mB, hmB⟩ : ∃ b, tB.heap.size = b := ⟨_, rfl⟩; obtain ⟨zB, hzB⟩ : ∃ W, tB.alloc (.cells #[.int .i64 0, .int .i64 0, .int .i64 0, .int .i64 0, .int .i64 0, .int .i64 0, .int .i64 0, .int .i64 0, .int .i64 0, .int .i64 0, .int .i64 0, .int .i64 0, .int .i64 0, .int .i64 0, .int .i64 0, .int .i64 0, .int .i64 0, .int .i64 0, .int .i64 0, .int .i64 0, .int .i64 0, .int .i64 0] 25) = W := ⟨_, rfl⟩; have HZB : Hid (Kp W2 zB ∧ Lc 25 mB z22 zB ∧ tB.heap.size = mB) := (by rw [← hzB, ← hmB]; exact ⟨kp_trans HTB.out (kp_alloc _ _), Lc.new tB z22 _, rfl⟩)) | (refine wpList_store_box HZB.out.2.1 0 LB rfl 25 (.tmp 12) (.tmp 63) rfl rfl rfl (by rw [Nat.zero_add, HLB.out.1]; exact Nat.le_refl _) (by rw [HLB.out.1]; exact sizeMatch) HLB.out.2 (sets_full _ _ (by rw [HLB.out.1]; rfl)) ?_; intro W3 q1 q2 q3; have HW3 : Hid (Kp W2 W3 ∧ Lc 25 mB LB W3) := ⟨HZB.out.1.trans (q2.below HZB.out.1.size fun j hj q => by unfold On at q; have h1 := HZB.out.2.2; have h2 := HTB.out.size; omega), q1⟩; clear q1 q2 q3))
      clear hmB hzB
      cases P
      all_goals
        go_wp2_with fail
        go_ret
        exact ⟨rfl, kp_trans HVV.out (kp_trans HW2.out.1 HW3.out.1)⟩
  · obtain ⟨j, hj⟩ : ∃ j, k = j + 1 := ⟨k - 1, by omega⟩
    have d0 : decide ((k : Int) > 0) = true := decide_eq_true (by omega)
    have d0' : decide ((0 : Int) < (k : Int)) = true := decide_eq_true (by omega)
    have d0'' : decide (0 < k) = true := decide_eq_true (by omega)
    have ej : (k : Int) - 1 = (j : Int) := by omega
    have hjs : j < line.size := by omega
    obtain ⟨cq, hcq⟩ : ∃ c, (line[j]).toNat = c := ⟨_, rfl⟩
    have HQI : Hid (∀ z, Calls Try.prog 16 #[.int .u8 119, .int .u8 cq] z fun e w' => e = .returned (.bool Q) ∧ Kp z w') := by
      intro z
      have := rIs_any 119 (cq : Int) z
      rw [← wrd_in hjs hcq, ← ej, hQ] at this
      exact Calls.mono this (by rintro e w' ⟨q1, q2⟩; rw [q2]; exact ⟨q1, Below.refl _ _⟩)
    clear hj
    by_cases hks : k = line.size
    · have hPF : P = false := by rw [← hP]; exact wrd_out (by omega)
      subst hPF
      have d1 : decide ((k : Int) < (line.size : Int)) = false := decide_eq_false (by omega)
      have d1' : decide (k < line.size) = false := decide_eq_false (by omega)
      have HPI : Hid True := trivial
      clear hP hQ hks
      clear hk0
      go_enter Try.func7, Try.ntmps7
      go_upto_region 4 with (go_at_call 10; refine Calls.mono (known_m _) ?_; rintro e w1 ⟨rfl, q⟩; have H1 : Hid (Kp w w1) := q; clear q)
      clear hk
      go_upto_region 5 with (go_at_call 16; refine Calls.mono (HQI.out _) ?_; rintro e v1 ⟨rfl, q⟩; have HV1 : Hid (Kp w1 v1) := q; clear q)
      have HVA : Hid (Kp w v1) := kp_trans H1.out HV1.out
      go_upto_region 6 with (go_at_call 16; refine Calls.mono (HPI.out _) ?_; rintro e V1 ⟨rfl, q⟩; have HV2 : Hid (Kp w V1) := kp_trans HVA.out q; clear q)
      obtain ⟨V1, hV1⟩ : ∃ z, v1 = z := ⟨_, rfl⟩
      rw [hV1] at HVA ⊢
      have HVV : Hid (Kp w V1) := HVA.out
      go_upto_region 7 with (first | (go_at_call 12; refine Calls.mono (compiledO one_bow _) ?_; rintro e uA ⟨q1, caA, ccA, rfl, q2⟩; have HUA : Hid (Kp V1 uA ∧ Cd uA (.slice caA 2 ccA) (oneC _)) := ⟨q1, q2⟩; clear q1 q2) | (go_at_call 11; refine Calls.mono (at_m HUA.out.2 (ok_one ok_zero) false 0 line (by omega) k 50) ?_; rintro e tA ⟨q1, q2⟩; rw [HYA.out] at q1; subst q1; have HTA : Hid (Kp V1 tA) := kp_trans HUA.out.1 q2; clear q2; obtain ⟨mA, hmA⟩ : ∃ b, tA.heap.size = b := ⟨_, rfl⟩; obtain ⟨zA, hzA⟩ : ∃ W, tA.alloc (.cells #[.int .i64 0, .int .i64 0, .int .i64 0, .int .i64 0, .int .i64 0, .int .i64 0, .int .i64 0, .int .i64 0, .int .i64 0, .int .i64 0, .int .i64 0, .int .i64 0, .int .i64 0, .int .i64 0, .int .i64 0, .int .i64 0, .int .i64 0, .int .i64 0, .int .i64 0, .int .i64 0, .int .i64 0, .int .i64 0] 25) = W := ⟨_, rfl⟩; have HZA : Hid (Kp V1 zA ∧ Lc 25 mA z22 zA ∧ tA.heap.size = mA) := (by rw [← hzA, ← hmA]; exact ⟨kp_trans HTA.out (kp_alloc _ _), Lc.new tA z22 _, rfl⟩)) | (refine wpList_store_box HZA.out.2.1 0 LA rfl 25 (.tmp 8) (.tmp 54) rfl rfl rfl (by rw [Nat.zero_add, HLA.out.1]; exact Nat.le_refl _) (by rw [HLA.out.1]; exact sizeMatch) HLA.out.2 (sets_full _ _ (by rw [HLA.out.1]; rfl)) ?_; intro W2 q1 q2 q3; have HW2 : Hid (Kp V1 W2 ∧ Lc 25 mA LA W2) := ⟨HZA.out.1.trans (q2.below HZA.out.1.size fun j hj q => by unfold On at q; have h1 := HZA.out.2.2; have h2 := HTA.out.size; omega), q1⟩; clear q1 q2 q3))
      clear hmA hzA
      go_upto_region 8 with (first | (go_at_call 12; refine Calls.mono (compiledO one_eow _) ?_; rintro e uB ⟨q1, caB, ccB, rfl, q2⟩; have HUB : Hid (Kp W2 uB ∧ Cd uB (.slice caB 2 ccB) (oneC _)) := ⟨q1, q2⟩; clear q1 q2) | (go_at_call 11; refine Calls.mono (at_m HUB.out.2 (ok_one ok_zero) false 0 line (by omega) k 50) ?_; rintro e tB ⟨q1, q2⟩; rw [HYB.out] at q1; subst q1; have HTB : Hid (Kp W2 tB) := kp_trans HUB.out.1 q2; clear q2; obtain ⟨mB, hmB⟩ : ∃ b, tB.heap.size = b := ⟨_, rfl⟩; obtain ⟨zB, hzB⟩ : ∃ W, tB.alloc (.cells #[.int .i64 0, .int .i64 0, .int .i64 0, .int .i64 0, .int .i64 0, .int .i64 0, .int .i64 0, .int .i64 0, .int .i64 0, .int .i64 0, .int .i64 0, .int .i64 0, .int .i64 0, .int .i64 0, .int .i64 0, .int .i64 0, .int .i64 0, .int .i64 0, .int .i64 0, .int .i64 0, .int .i64 0, .int .i64 0] 25) = W := ⟨_, rfl⟩; have HZB : Hid (Kp W2 zB ∧ Lc 25 mB z22 zB ∧ tB.heap.size = mB) := (by rw [← hzB, ← hmB]; exact ⟨kp_trans HTB.out (kp_alloc _ _), Lc.new tB z22 _, rfl⟩)) | (refine wpList_store_box HZB.out.2.1 0 LB rfl 25 (.tmp 12) (.tmp 63) rfl rfl rfl (by rw [Nat.zero_add, HLB.out.1]; exact Nat.le_refl _) (by rw [HLB.out.1]; exact sizeMatch) HLB.out.2 (sets_full _ _ (by rw [HLB.out.1]; rfl)) ?_; intro W3 q1 q2 q3; have HW3 : Hid (Kp W2 W3 ∧ Lc 25 mB LB W3) := ⟨HZB.out.1.trans (q2.below HZB.out.1.size fun j hj q => by unfold On at q; have h1 := HZB.out.2.2; have h2 := HTB.out.size; omega), q1⟩; clear q1 q2 q3))
      clear hmB hzB
      cases Q
      all_goals
        go_wp2_with fail
        go_ret
        exact ⟨rfl, kp_trans HVV.out (kp_trans HW2.out.1 HW3.out.1)⟩
    · have hkl : k < line.size := by omega
      have d1 : decide ((k : Int) < (line.size : Int)) = true := decide_eq_true (by omega)
      have d1' : decide (k < line.size) = true := decide_eq_true hkl
      obtain ⟨cp, hcp⟩ : ∃ c, (line[k]).toNat = c := ⟨_, rfl⟩
      have HPI : Hid (∀ z, Calls Try.prog 16 #[.int .u8 119, .int .u8 cp] z fun e w' => e = .returned (.bool P) ∧ Kp z w') := by
        intro z
        have := rIs_any 119 (cp : Int) z
        rw [← wrd_in hkl hcp, hP] at this
        exact Calls.mono this (by rintro e w' ⟨q1, q2⟩; rw [q2]; exact ⟨q1, Below.refl _ _⟩)
      clear hP hQ hks
      clear hk0
      go_enter Try.func7, Try.ntmps7
      go_upto_region 4 with (go_at_call 10; refine Calls.mono (known_m _) ?_; rintro e w1 ⟨rfl, q⟩; have H1 : Hid (Kp w w1) := q; clear q)
      clear hk
      go_upto_region 5 with (go_at_call 16; refine Calls.mono (HQI.out _) ?_; rintro e v1 ⟨rfl, q⟩; have HV1 : Hid (Kp w1 v1) := q; clear q)
      have HVA : Hid (Kp w v1) := kp_trans H1.out HV1.out
      go_upto_region 6 with (go_at_call 16; refine Calls.mono (HPI.out _) ?_; rintro e V1 ⟨rfl, q⟩; have HV2 : Hid (Kp w V1) := kp_trans HVA.out q; clear q)
      have HVV : Hid (Kp w V1) := HV2.out
      go_upto_region 7 with (first | (go_at_call 12; refine Calls.mono (compiledO one_bow _) ?_; rintro e uA ⟨q1, caA, ccA, rfl, q2⟩; have HUA : Hid (Kp V1 uA ∧ Cd uA (.slice caA 2 ccA) (oneC _)) := ⟨q1, q2⟩; clear q1 q2) | (go_at_call 11; refine Calls.mono (at_m HUA.out.2 (ok_one ok_zero) false 0 line (by omega) k 50) ?_; rintro e tA ⟨q1, q2⟩; rw [HYA.out] at q1; subst q1; have HTA : Hid (Kp V1 tA) := kp_trans HUA.out.1 q2; clear q2; obtain ⟨mA, hmA⟩ : ∃ b, tA.heap.size = b := ⟨_, rfl⟩; obtain ⟨zA, hzA⟩ : ∃ W, tA.alloc (.cells #[.int .i64 0, .int .i64 0, .int .i64 0, .int .i64 0, .int .i64 0, .int .i64 0, .int .i64 0, .int .i64 0, .int .i64 0, .int .i64 0, .int .i64 0, .int .i64 0, .int .i64 0, .int .i64 0, .int .i64 0, .int .i64 0, .int .i64 0, .int .i64 0, .int .i64 0, .int .i64 0, .int .i64 0, .int .i64 0] 25) = W := ⟨_, rfl⟩; have HZA : Hid (Kp V1 zA ∧ Lc 25 mA z22 zA ∧ tA.heap.size = mA) := (by rw [← hzA, ← hmA]; exact ⟨kp_trans HTA.out (kp_alloc _ _), Lc.new tA z22 _, rfl⟩)) | (refine wpList_store_box HZA.out.2.1 0 LA rfl 25 (.tmp 8) (.tmp 54) rfl rfl rfl (by rw [Nat.zero_add, HLA.out.1]; exact Nat.le_refl _) (by rw [HLA.out.1]; exact sizeMatch) HLA.out.2 (sets_full _ _ (by rw [HLA.out.1]; rfl)) ?_; intro W2 q1 q2 q3; have HW2 : Hid (Kp V1 W2 ∧ Lc 25 mA LA W2) := ⟨HZA.out.1.trans (q2.below HZA.out.1.size fun j hj q => by unfold On at q; have h1 := HZA.out.2.2; have h2 := HTA.out.size; omega), q1⟩; clear q1 q2 q3))
      clear hmA hzA
      go_upto_region 8 with (first | (go_at_call 12; refine Calls.mono (compiledO one_eow _) ?_; rintro e uB ⟨q1, caB, ccB, rfl, q2⟩; have HUB : Hid (Kp W2 uB ∧ Cd uB (.slice caB 2 ccB) (oneC _)) := ⟨q1, q2⟩; clear q1 q2) | (go_at_call 11; refine Calls.mono (at_m HUB.out.2 (ok_one ok_zero) false 0 line (by omega) k 50) ?_; rintro e tB ⟨q1, q2⟩; rw [HYB.out] at q1; subst q1; have HTB : Hid (Kp W2 tB) := kp_trans HUB.out.1 q2; clear q2; obtain ⟨mB, hmB⟩ : ∃ b, tB.heap.size = b := ⟨_, rfl⟩; obtain ⟨zB, hzB⟩ : ∃ W, tB.alloc (.cells #[.int .i64 0, .int .i64 0, .int .i64 0, .int .i64 0, .int .i64 0, .int .i64 0, .int .i64 0, .int .i64 0, .int .i64 0, .int .i64 0, .int .i64 0, .int .i64 0, .int .i64 0, .int .i64 0, .int .i64 0, .int .i64 0, .int .i64 0, .int .i64 0, .int .i64 0, .int .i64 0, .int .i64 0, .int .i64 0] 25) = W := ⟨_, rfl⟩; have HZB : Hid (Kp W2 zB ∧ Lc 25 mB z22 zB ∧ tB.heap.size = mB) := (by rw [← hzB, ← hmB]; exact ⟨kp_trans HTB.out (kp_alloc _ _), Lc.new tB z22 _, rfl⟩)) | (refine wpList_store_box HZB.out.2.1 0 LB rfl 25 (.tmp 12) (.tmp 63) rfl rfl rfl (by rw [Nat.zero_add, HLB.out.1]; exact Nat.le_refl _) (by rw [HLB.out.1]; exact sizeMatch) HLB.out.2 (sets_full _ _ (by rw [HLB.out.1]; rfl)) ?_; intro W3 q1 q2 q3; have HW3 : Hid (Kp W2 W3 ∧ Lc 25 mB LB W3) := ⟨HZB.out.1.trans (q2.below HZB.out.1.size fun j hj q => by unfold On at q; have h1 := HZB.out.2.2; have h2 := HTB.out.size; omega), q1⟩; clear q1 q2 q3))
      clear hmB hzB
      cases P <;> cases Q
      all_goals
        go_wp2_with fail
        go_ret
        exact ⟨rfl, kp_trans HVV.out (kp_trans HW2.out.1 HW3.out.1)⟩
end Go.Proofs.Ytibgpkkgaekakaa
/- A class as a pattern, plain. -/
namespace Go.Proofs.Ytibgpkkgaekakaa
open Go.ChangeShapes Go.WideShapes Go.ChangeAt Go.RowKit
set_option linter.unusedVariables false
set_option linter.unusedSimpArgs false
def clsI (c : Nat) : Ins := { op := 3, set := foldS (isB c) 256 }
def eqI (a b : Ins) : Bool := a.op == b.op && a.c == b.c && a.set.a == b.set.a && a.set.b == b.set.b && a.set.c == b.set.c && a.set.d == b.set.d && a.x == b.x && a.y == b.y
theorem eqI_eq {a b : Ins} (h : eqI a b = true) : a = b := by
  obtain ⟨o, c, ⟨p, q, r, t⟩, x, y⟩ := a
  obtain ⟨o', c', ⟨p', q', r', t'⟩, x', y'⟩ := b
  unfold eqI at h
  simp only [Bool.and_eq_true, beq_iff_eq] at h
  obtain ⟨⟨⟨⟨⟨⟨⟨rfl, rfl⟩, rfl⟩, rfl⟩, rfl⟩, rfl⟩, rfl⟩, rfl⟩ := h
  rfl
def chkC (c : Nat) : Bool := !knB (smI c) || (match cpdE2 ⟨#[92, UInt8.ofNat c]⟩ false with
  | ([d, e], 0, false) => eqI d (clsI c) && eqI e { op := 14 }
  | _ => false)
set_option maxRecDepth 1000000 in
theorem chk_all : (List.range 256).all chkC = true := by kernel_rfl
theorem cls_one {c : Nat} (hc : c < 256) (hk : knB (smI c) = true) : cpdE ⟨#[92, UInt8.ofNat c]⟩ false = (oneC (clsI c), 0, false) := by
  have h := List.all_eq_true.1 chk_all c (List.mem_range.2 hc)
  rw [cpd_eq]
  unfold chkC at h
  rw [hk] at h
  simp only [Bool.not_true, Bool.false_or] at h
  split at h
  · rename_i d e q
    rw [Bool.and_eq_true] at h
    rw [q, eqI_eq h.1, eqI_eq h.2]
    rfl
  · cases h
theorem ok_cls (c : Nat) : (clsI c).set.ok := ok_fold _ _ (Nat.le_refl _)
theorem asks_cls (s : ByteArray) (c : Nat) : Asks s false (clsI c) (fun k => fitB s false (clsI c) k) 1 := ⟨by show (3 : Nat) ≠ 4; decide, by show (3 : Nat) ≠ 5; decide, by show (3 : Nat) ≠ 14; decide, fun u k n _ => by
  show byteE s false (clsI c) (mcO u k n) = _
  unfold byteE
  show (if fitB s false (clsI c) k = true then _ else _) = _
  cases fitB s false (clsI c) k <;> rfl⟩
theorem fit_cls {s : ByteArray} {c k : Nat} (hk : k < s.size) : fitB s false (clsI c) k = isB c (byt s k) := by
  unfold fitB
  rw [if_neg (by omega), if_neg (by show ¬ (3 = 1); decide), if_pos (by rfl)]
  unfold ofB
  rw [Bool.false_and, Bool.or_false]
  rw [show (clsI c).set = foldS (isB c) 256 from rfl, has_fold (isB c) (byt s k) 256 (Nat.le_refl _) (byt_lt s k), decide_eq_true (byt_lt s k), Bool.true_and]
theorem fit_end (s : ByteArray) (c : Nat) : fitB s false (clsI c) s.size = false := by unfold fitB; rw [if_pos rfl]
theorem first_ex (p : Nat → Bool) (n : Nat) : ∃ K, K ≤ n ∧ (∀ j, j < K → p j = false) ∧ (K < n → p K = true) := by
  induction n with
  | zero => exact ⟨0, Nat.le_refl _, fun j h => absurd h (by omega), fun h => absurd h (by omega)⟩
  | succ n ih =>
    obtain ⟨K, h1, h2, h3⟩ := ih
    by_cases e : K < n
    · exact ⟨K, by omega, h2, fun _ => h3 e⟩
    · obtain rfl : K = n := by omega
      cases hp : p K with
      | true => exact ⟨K, by omega, h2, fun _ => hp⟩
      | false => exact ⟨K + 1, Nat.le_refl _, fun j hj => by
          by_cases q : j = K
          · rw [q]; exact hp
          · exact h2 j (by omega), fun h => absurd h (by omega)⟩
theorem snd_cls (c : Nat) : sndF (oneC (clsI c)) 0 = true := by kernel_rfl
end Go.Proofs.Ytibgpkkgaekakaa
/- MatchClass: the walk. -/
namespace Go.Proofs.Ytibgpkkgaekakaa
open Go.ChangeShapes Go.WideShapes Go.ChangeAt Go.RowKit
set_option linter.unusedVariables false
set_option linter.unusedSimpArgs false
theorem byte_str (w : World) (n : Int) (c : UInt8) (h : n = (c.toNat : Int)) : (convert 38 9 (.slice (some ⟨w.heap.size, 0, none⟩) 1 1)).run Try.prog (w.alloc (.cells #[.int .u8 n] 5)) = .ok (.string ⟨#[c]⟩) (w.alloc (.cells #[.int .u8 n] 5)) :=
  run_convert_bytes_back (P := Try.prog) _ 38 9 5 ⟨w.heap.size, 0, none⟩ 1 [c] Try.underlying38 Try.underlying5 Try.underlying9 (fun j hj => by
    have hj0 : j = 0 := by simpa using hj
    subst hj0
    rw [Addr.add_lit, cell_at (alloc_new w _)]
    show some (Value.int .u8 n) = some (Value.int .u8 (c.toNat : Int))
    rw [h])
set_option maxHeartbeats 16000000 in
set_option maxRecDepth 100000 in
theorem class_law (c : Nat) (hc : c < 256) (line : ByteArray) (w : World) : Calls Try.prog 5 #[.int .u8 c, .string line] w fun e w' => e = .returned (.bool true) ∧ Kp w w' := by
  obtain ⟨kn, hkn⟩ : ∃ b, knB (smI c) = b := ⟨_, rfl⟩
  have HRK : Hid (∀ z, Calls Try.prog 15 #[.int .u8 c] z fun e w' => e = .returned (.bool kn) ∧ w' = z) := by intro z; have := rKnown_any (c : Int) z; rw [hkn] at this; exact this
  by_cases h1 : 200 < line.size
  · have dlinea : decide ((line.size : Int) > 200) = true := decide_eq_true (by omega)
    have dlineb : decide ((200 : Int) < (line.size : Int)) = true := decide_eq_true (by omega)
    have dlinec : decide (200 < line.size) = true := decide_eq_true (by omega)
    clear h1 hkn
    go_enter Try.func5, Try.ntmps5
    go_wp2_with (go_at_call 10; refine Calls.mono (known_m _) ?_; rintro e w1 ⟨rfl, q⟩; have H1 : Hid (Kp w w1) := q; clear q)
    go_ret
    exact ⟨rfl, H1.out⟩
  have dlinea : decide ((line.size : Int) > 200) = false := decide_eq_false (by omega)
  have dlineb : decide ((200 : Int) < (line.size : Int)) = false := decide_eq_false (by omega)
  have dlinec : decide (200 < line.size) = false := decide_eq_false (by omega)
  have hsz : line.size ≤ 200 := Nat.le_of_not_lt h1
  clear h1
  cases kn with
  | false =>
    clear hkn
    go_enter Try.func5, Try.ntmps5
    go_wp2_with (first | (go_at_call 10; refine Calls.mono (known_m _) ?_; rintro e w1 ⟨rfl, q⟩; have H1 : Hid (Kp w w1) := q; clear q) | (go_at_call 15; refine Calls.mono (HRK.out _) ?_; rintro e x1 ⟨rfl, q⟩; rw [q]; clear q))
    go_ret
    exact ⟨rfl, H1.out⟩
  | true =>
  have HON : Hid (cpdE ⟨#[92, UInt8.ofNat c]⟩ false = (oneC (clsI c), 0, false)) := cls_one hc hkn
  obtain ⟨K, k1, k2, k3⟩ := first_ex (fun j => isB c (byt line j)) line.size
  obtain ⟨⟨lA, nA, sA, eA⟩, hYA⟩ : ∃ ZZ, firE (oneC (clsI c)) 0 line false 0 line.size 5000 = ZZ := ⟨_, rfl⟩
  have hfj : ∀ j, j < K → fitB line false (clsI c) j = false := fun j hj => by rw [fit_cls (by omega)]; exact k2 j hj
  have hq : eA = 0 ∧ (K < line.size → sA = true ∧ lA.getD 0 0 = (K : Int) ∧ lA.getD 1 0 = (K : Int) + 1) ∧ (K = line.size → sA = false) := by
    by_cases e : K < line.size
    · have q := (asks_cls line c).firF (snd_cls c) (k := 0) (st := 5000) (K := K) (Nat.zero_le _) (by omega) (by omega) (Nat.zero_le _) (by omega) (by rw [fit_cls e]; exact k3 e) (fun j _ hj => hfj j hj)
      rw [show ((5000 : Nat) : Int) = 5000 from rfl, show ((0 : Nat) : Int) = 0 from rfl, hYA] at q
      simp only [Prod.mk.injEq] at q
      exact ⟨q.1.2, fun _ => ⟨q.1.1, q.2.1, by rw [q.2.2]; rfl⟩, fun z => absurd z (by omega)⟩
    · have e2 : K = line.size := by omega
      have q := (asks_cls line c).firN (snd_cls c) (k := 0) (st := 5000) (Nat.zero_le _) (by omega) (by omega) (fun j _ hj => by
        by_cases z : j = line.size
        · rw [z]; exact fit_end line c
        · exact hfj j (by omega))
      rw [show ((5000 : Nat) : Int) = 5000 from rfl, show ((0 : Nat) : Int) = 0 from rfl, hYA] at q
      simp only [Prod.mk.injEq] at q
      exact ⟨q.2, fun z => absurd z e, fun _ => q.1⟩
  obtain ⟨rfl, q2, q3⟩ := hq
  obtain ⟨LA, hLA⟩ : ∃ L, slv lA = L := ⟨_, rfl⟩
  have hlA : lA.length = 22 := by have := firE_len (oneC (clsI c)) 0 line false 0 line.size 5000; rw [hYA] at this; exact this
  have HLA : Hid (LA.length = 22 ∧ (∀ v ∈ LA, v.oneCell' = true)) := by rw [← hLA]; exact ⟨by rw [slv_len]; exact hlA, slv_one _⟩
  have HYA : Hid (ansV (firE (oneC (clsI c)) 0 line false 0 line.size 5000) = .tuple #[.agg LA.toArray, .int .i64 nA, .bool sA, .int .u16 0]) := by show _ = _; rw [hYA, ← hLA]; rfl
  have HKQ : Hid ((K < line.size → sA = true ∧ LA[0]? = some (.int .i64 K) ∧ LA[1]? = some (.int .i64 ((K : Int) + 1))) ∧ (K = line.size → sA = false) ∧ (∀ j, j < K → isB c (byt line j) = false) ∧ (K < line.size → isB c (byt line K) = true)) := by
    rw [← hLA]
    exact ⟨fun h => ⟨(q2 h).1, by rw [slv_get (by omega) 0, (q2 h).2.1], by rw [slv_get (by omega) 0, (q2 h).2.2]⟩, q3, k2, k3⟩
  clear hYA hLA hlA q2 q3 k2 k3 hfj hkn
  have hcv : ∀ z : World, (convert 38 9 (.slice (some ⟨z.heap.size, 0, none⟩) 1 1)).run Try.prog (z.alloc (.cells #[.int .u8 c] 5)) = .ok (.string ⟨#[UInt8.ofNat c]⟩) (z.alloc (.cells #[.int .u8 c] 5)) := fun z => byte_str z c (UInt8.ofNat c) (by rw [UInt8.toNat_ofNat', Nat.mod_eq_of_lt hc])
  have had : ∀ z : World, (Op.stringOp .add ⟨#[92]⟩ ⟨#[UInt8.ofNat c]⟩).run Try.prog z = .ok (.string ⟨#[92, UInt8.ofNat c]⟩) z := fun z => run_string_add_sum z ⟨#[92]⟩ ⟨#[UInt8.ofNat c]⟩ (by show 1 + 1 ≤ _; omega)
  go_enter Try.func5, Try.ntmps5
  go_upto_region 3 with (first | (go_at_call 10; refine Calls.mono (known_m _) ?_; rintro e w1 ⟨rfl, q⟩; have H1 : Hid (Kp w w1) := q; clear q) | (go_at_call 15; refine Calls.mono (HRK.out _) ?_; rintro e x1 ⟨rfl, q⟩; rw [q]; clear q))
  go_upto_region 4 with (first | (go_at_call 12; refine Calls.mono (compiledO HON.out _) ?_; rintro e uA ⟨q1, caA, ccA, rfl, q2⟩; have HUA : Hid (Kp w uA ∧ Cd uA (.slice caA 2 ccA) (oneC (clsI c))) := ⟨kp_trans H1.out (kp_trans (kp_alloc _ _) q1), q2⟩; clear q1 q2) | (go_at_call 13; refine Calls.mono (from_m HUA.out.2 (ok_one (ok_cls c)) false 0 line (by omega) 0 5000) ?_; rintro e tA ⟨q1, q2⟩; rw [HYA.out] at q1; subst q1; have HTA : Hid (Kp w tA) := kp_trans HUA.out.1 q2; clear q2; obtain ⟨mA, hmA⟩ : ∃ b, tA.heap.size = b := ⟨_, rfl⟩; obtain ⟨zA, hzA⟩ : ∃ W, tA.alloc (.cells #[.int .i64 0, .int .i64 0, .int .i64 0, .int .i64 0, .int .i64 0, .int .i64 0, .int .i64 0, .int .i64 0, .int .i64 0, .int .i64 0, .int .i64 0, .int .i64 0, .int .i64 0, .int .i64 0, .int .i64 0, .int .i64 0, .int .i64 0, .int .i64 0, .int .i64 0, .int .i64 0, .int .i64 0, .int .i64 0] 25) = W := ⟨_, rfl⟩; have HZA : Hid (Kp w zA ∧ Lc 25 mA z22 zA ∧ tA.heap.size = mA) := (by rw [← hzA, ← hmA]; exact ⟨kp_trans HTA.out (kp_alloc _ _), Lc.new tA z22 _, rfl⟩)) | (refine wpList_store_box HZA.out.2.1 0 LA rfl 25 (.tmp 5) (.tmp 31) rfl rfl rfl (by rw [Nat.zero_add, HLA.out.1]; exact Nat.le_refl _) (by rw [HLA.out.1]; exact sizeMatch) HLA.out.2 (sets_full _ _ (by rw [HLA.out.1]; rfl)) ?_; intro W2 q1 q2 q3; have HW2 : Hid (Kp w W2 ∧ Lc 25 mA LA W2) := ⟨HZA.out.1.trans (q2.below HZA.out.1.size fun j hj q => by unfold On at q; have h1 := HZA.out.2.2; have h2 := HTA.out.size; omega), q1⟩; clear q1 q2 q3))
  clear hmA hzA hcv had
  go_wp2_with fail
  go_loopw [9] (fun v9 wr => ∃ j : Nat, j ≤ K ∧ v9 = .int .i64 j ∧ Hid (Kp W2 wr)) (fun v9 _ => K - (intOf v9).toNat)
  case atStart => exact ⟨0, Nat.zero_le _, rfl, Below.refl _ _⟩
  case round =>
    obtain ⟨j, hj, rfl, hq⟩ := hrel
    have HQ : Hid (Kp W2 wr) := hq.out
    clear hq
    by_cases hjs : j < line.size
    · have d1 : decide ((j : Int) < (line.size : Int)) = true := decide_eq_true (by omega)
      have d1' : decide (j < line.size) = true := decide_eq_true hjs
      obtain ⟨cp, hcp⟩ : ∃ c, (line[j]).toNat = c := ⟨_, rfl⟩
      have hcb : byt line j = cp := by rw [byt_eq hjs]; exact hcp
      obtain ⟨P, hP⟩ : ∃ P, isB c cp = P := ⟨_, rfl⟩
      have HPI : Hid (∀ z, Calls Try.prog 16 #[.int .u8 c, .int .u8 cp] z fun e w' => e = .returned (.bool P) ∧ w' = z) := by
        intro z
        have := rIs_any (c : Int) (cp : Int) z
        rw [hP] at this
        exact this
      rcases Nat.lt_or_ge j K with hjK | hjK
      · have hPF : P = false := by have := HKQ.out.2.2.1 j hjK; rw [hcb, hP] at this; exact this
        subst hPF
        clear hP hcb
        go_wp2_with (go_at_call 16; refine Calls.mono (HPI.out _) ?_; rintro e x1 ⟨rfl, q⟩; rw [q]; clear q)
        go_roundw
        case rel => exact ⟨j + 1, by omega, by go_num, HQ.out⟩
        case measure => simp only [intOf]; omega
      · obtain rfl : j = K := by omega
        have hPT : P = true := by have := HKQ.out.2.2.2 hjs; rw [hcb, hP] at this; exact this
        subst hPT
        clear hP hcb
        obtain ⟨r1, r2, r3⟩ := HKQ.out.1 hjs
        subst r1
        have g0 : wr.cell? ⟨mA, 0, none⟩ = some (.int .i64 j) := (HW2.out.2.kp HQ.out).at r2
        have g1 : wr.cell? ⟨mA, 1, none⟩ = some (.int .i64 ((j : Int) + 1)) := (HW2.out.2.kp HQ.out).at r3
        clear r2 r3
        go_wp2_with (go_at_call 16; refine Calls.mono (HPI.out _) ?_; rintro e x1 ⟨rfl, q⟩; rw [q]; clear q)
        go_ret
        exact ⟨rfl, kp_trans HW2.out.1 HQ.out⟩
    · have d1 : decide ((j : Int) < (line.size : Int)) = false := decide_eq_false (by omega)
      have d1' : decide (j < line.size) = false := decide_eq_false hjs
      have r1 := HKQ.out.2.1 (by omega)
      subst r1
      go_wp2_with fail
      go_ret
      exact ⟨rfl, kp_trans HW2.out.1 HQ.out⟩
end Go.Proofs.Ytibgpkkgaekakaa
/- A group that is asked for again, plain. -/
namespace Go.Proofs.Ytibgpkkgaekakaa
open Go.ChangeShapes Go.WideShapes Go.ChangeAt Go.RowKit
set_option linter.unusedVariables false
set_option linter.unusedSimpArgs false
/-- The code of \(.\{n}\)\1. -/
def twC (n : Nat) : List Ins := { op := 6, x := 2 } :: (List.replicate n { op := 2 } ++ [{ op := 6, x := 3 }, { op := 7, x := 1 }, { op := 14 }])
def digS (n : Nat) : List UInt8 := if n < 10 then [UInt8.ofNat (48 + n)] else [UInt8.ofNat (48 + n / 10), UInt8.ofNat (48 + n % 10)]
def twP (n : Nat) : ByteArray := ⟨([92, 40, 46, 92, 123] ++ digS n ++ [125, 92, 41, 92, 49]).toArray⟩
def eqL : List Ins → List Ins → Bool
  | [], [] => true
  | a :: l, b :: m => eqI a b && eqL l m
  | _, _ => false
theorem eqL_eq : ∀ {l m : List Ins}, eqL l m = true → l = m
  | [], [], _ => rfl
  | a :: l, b :: m, h => by
    rw [eqL, Bool.and_eq_true] at h
    rw [eqI_eq h.1, eqL_eq h.2]
  | [], _ :: _, h => by cases h
  | _ :: _, [], h => by cases h
def chkT (f : Bool) (n : Nat) : Bool := eqL (cpdE2 (twP n) f).1 (twC n) && (cpdE2 (twP n) f).2.1 == 0 && (cpdE2 (twP n) f).2.2 == f
set_option maxRecDepth 1000000 in
theorem chkT_all : ((List.range 31).all (chkT false) && (List.range 31).all (chkT true)) = true := by kernel_rfl
theorem tw_cpd {n : Nat} (hn : n ≤ 30) (f : Bool) : cpdE (twP n) f = (twC n, 0, f) := by
  have h := chkT_all
  rw [Bool.and_eq_true] at h
  have hc : chkT f n = true := by
    cases f
    · exact List.all_eq_true.1 h.1 n (List.mem_range.2 (by omega))
    · exact List.all_eq_true.1 h.2 n (List.mem_range.2 (by omega))
  unfold chkT at hc
  simp only [Bool.and_eq_true, beq_iff_eq] at hc
  rw [cpd_eq]
  obtain ⟨⟨h1, h2⟩, h3⟩ := hc
  have h1' := eqL_eq h1
  rw [← h1', ← h2]
  have : cpdE2 (twP n) f = ((cpdE2 (twP n) f).1, (cpdE2 (twP n) f).2.1, (cpdE2 (twP n) f).2.2) := rfl
  rw [this, h3]
def chkS (n : Nat) : Bool := sndF (twC n) 0
set_option maxRecDepth 1000000 in
theorem chkS_all : (List.range 31).all chkS = true := by kernel_rfl
theorem snd_tw {n : Nat} (hn : n ≤ 30) : sndF (twC n) 0 = true := List.all_eq_true.1 chkS_all n (List.mem_range.2 (by omega))
theorem ok_tw (n : Nat) : ∀ d ∈ twC n, d.set.ok := by
  intro d hd
  unfold twC at hd
  rcases List.mem_cons.1 hd with rfl | hd
  · exact ok_zero
  rcases List.mem_append.1 hd with hd | hd
  · rw [(List.mem_replicate.1 hd).2]; exact ok_zero
  · simp only [List.mem_cons, List.not_mem_nil, or_false] at hd
    rcases hd with rfl | rfl | rfl <;> exact ok_zero
theorem tw_len (n : Nat) : (twC n).length = n + 4 := by simp [twC]
theorem tw_0 (n : Nat) : insAt (twC n) 0 = { op := 6, x := 2 } := rfl
theorem tw_any {n i : Nat} (h : i < n) : insAt (twC n) (1 + i) = { op := 2 } := by
  unfold insAt twC
  rw [show 1 + i = i + 1 by omega, List.getD_cons_succ, List.getD_eq_getElem?_getD, List.getElem?_append_left (by simpa using h)]
  simp [h]
theorem tw_end (n j : Nat) : insAt (twC n) (n + 1 + j) = ([{ op := 6, x := 3 }, { op := 7, x := 1 }, { op := 14 }] : List Ins).getD j { op := 14 } := by
  unfold insAt twC
  rw [show n + 1 + j = (n + j) + 1 by omega, List.getD_cons_succ, List.getD_eq_getElem?_getD, List.getElem?_append_right (by simp), List.getD_eq_getElem?_getD]
  simp
section
variable {s : ByteArray} {fo : Bool}
/-- One step, which does not end it. -/
theorem go_step {C : List Ins} {d : Ins} {m : Mc} {q : Mc} {n : Nat} (hd : insAt C m.t.nx = d) (h14 : d.op ≠ 14) (h4 : d.op ≠ 4) (h5 : d.op ≠ 5) (hl : m.t.nx + 1 < C.length) (hp : passE s fo d ((m.steps n).go (m.t.nx + 1)) = (true, q)) :
    goE C s fo (n + 1) m = goE C s fo n q := by
  have e : doE C.length s fo d (m.steps n) = (true, q) := by
    unfold doE
    rw [if_neg h4, if_neg h5, if_pos (by exact hl)]
    exact hp
  rw [goE, hd, if_neg h14, e]
  rfl
/-- A try on its way over the bytes of the group. -/
def mcT (u : List Int) (ss : List Int) (nx k st : Nat) : Mc := ⟨u, [], ⟨ss, nx, k, 0⟩, [], st⟩
theorem go_any {n : Nat} (hs : n ≤ s.size) (u ss : List Int) (st : Nat) : ∀ i, i ≤ n → goE (twC n) s fo (st + i) (mcT u ss (n + 1 - i) (n - i) (st + i)) = goE (twC n) s fo st (mcT u ss (n + 1) n st) := by
  intro i
  induction i with
  | zero => intro _; rfl
  | succ i ih =>
    intro hi
    rw [← ih (by omega)]
    have e : n + 1 - (i + 1) = 1 + (n - (i + 1)) := by omega
    refine go_step (d := { op := 2 }) (m := mcT u ss (n + 1 - (i + 1)) (n - (i + 1)) (st + (i + 1))) (n := st + i) (by show insAt (twC n) (n + 1 - (i + 1)) = _; rw [e]; exact tw_any (by omega)) (by decide) (by decide) (by decide) (by show n + 1 - (i + 1) + 1 < _; rw [tw_len]; omega) ?_
    show byteE s fo { op := 2 } _ = _
    unfold byteE
    have hf : fitB s fo { op := 2 } (n - (i + 1)) = true := by
      unfold fitB
      rw [if_neg (by omega), if_neg (by decide), if_neg (by decide)]
    show (if fitB s fo { op := 2 } (n - (i + 1)) = true then _ else _) = _
    rw [if_pos hf]
    have e1 : n + 1 - (i + 1) + 1 = n + 1 - i := by omega
    have e2 : n - (i + 1) + 1 = n - i := by omega
    show (true, (⟨u, [], ⟨ss, n + 1 - (i + 1) + 1, n - (i + 1) + 1, 0⟩, [], st + i⟩ : Mc)) = _
    rw [e1, e2]
    rfl
end
end Go.Proofs.Ytibgpkkgaekakaa
/- A group that is asked for again, plain: what At answers. -/
namespace Go.Proofs.Ytibgpkkgaekakaa
open Go.ChangeShapes Go.WideShapes Go.ChangeAt Go.RowKit
set_option linter.unusedVariables false
set_option linter.unusedSimpArgs false
section
variable {s : ByteArray} {fo : Bool}
/-- The slots behind the group. -/
def twS (n : Nat) : List Int := ((tyE 0).ss.set 2 (0 : Int)).set 3 (n : Int)
theorem rpt_same {a k : Nat} : ∀ m, (∀ i, i < m → byt s (a + i) = byt s (k + i)) → rptL s fo a k m = true := by
  intro m
  induction m generalizing a k with
  | zero => intro _; rfl
  | succ m ih =>
    intro h
    rw [rptL, Bool.and_eq_true]
    have h0 := h 0 (by omega)
    rw [Nat.add_zero, Nat.add_zero] at h0
    refine ⟨by rw [h0]; unfold smeB; simp, ih fun i hi => ?_⟩
    have := h (i + 1) (by omega)
    rw [show a + 1 + i = a + (i + 1) by omega, show k + 1 + i = k + (i + 1) by omega]
    exact this
theorem tw_go {n : Nat} (hs : 2 * n ≤ s.size) (hb : ∀ i, i < n → byt s i = byt s (n + i)) (u : List Int) (st : Nat) :
    goE (twC n) s fo (st + n + 4) ⟨u, [], tyE 0, [], st + n + 4⟩ = (1, mcT u (twS n) (n + 3) (2 * n) st) := by
  have h0 : goE (twC n) s fo (st + n + 4) ⟨u, [], tyE 0, [], st + n + 4⟩ = goE (twC n) s fo (st + n + 3) (mcT u ((tyE 0).ss.set 2 (0 : Int)) 1 0 (st + n + 3)) :=
    go_step (d := { op := 6, x := 2 }) (m := ⟨u, [], tyE 0, [], st + n + 4⟩) (n := st + n + 3) (tw_0 n) (by decide) (by decide) (by decide) (by show 0 + 1 < _; rw [tw_len]; omega) rfl
  have h1 := go_any (s := s) (fo := fo) (n := n) (by omega) u ((tyE 0).ss.set 2 (0 : Int)) (st + 3) n (Nat.le_refl _)
  rw [show n + 1 - n = 1 by omega, Nat.sub_self, show st + 3 + n = st + n + 3 by omega] at h1
  have h2 : goE (twC n) s fo (st + 3) (mcT u ((tyE 0).ss.set 2 (0 : Int)) (n + 1) n (st + 3)) = goE (twC n) s fo (st + 2) (mcT u (twS n) (n + 2) n (st + 2)) :=
    go_step (d := { op := 6, x := 3 }) (m := mcT u ((tyE 0).ss.set 2 (0 : Int)) (n + 1) n (st + 3)) (n := st + 2) (tw_end n 0) (by decide) (by decide) (by decide) (by show n + 1 + 1 < _; rw [tw_len]; omega) rfl
  have hg : grpE (twS n) 1 = (0, (n : Int)) := by
    unfold grpE twS
    show (if ((0 : Int) = -1 ∨ (n : Int) < 0) then _ else _) = _
    rw [if_neg (by omega)]
    rfl
  have hr : rptB s fo 0 n n = true := by
    unfold rptB
    rw [if_neg (by omega)]
    refine rpt_same _ fun i hi => ?_
    rw [Nat.zero_add]
    exact hb i (by omega)
  have h3 : goE (twC n) s fo (st + 2) (mcT u (twS n) (n + 2) n (st + 2)) = goE (twC n) s fo (st + 1) (mcT u (twS n) (n + 3) (2 * n) (st + 1)) := by
    refine go_step (d := { op := 7, x := 1 }) (m := mcT u (twS n) (n + 2) n (st + 2)) (n := st + 1) (tw_end n 1) (by decide) (by decide) (by decide) (by show n + 2 + 1 < _; rw [tw_len]; omega) ?_
    show againE s fo 1 (mcT u (twS n) (n + 3) n (st + 1)) = _
    unfold againE
    show (if (grpE (twS n) 1).1 = -1 then _ else if rptB s fo (grpE (twS n) 1).1.toNat (grpE (twS n) 1).2.toNat n = true then (true, (mcT u (twS n) (n + 3) n (st + 1)).pos (n + ((grpE (twS n) 1).2 - (grpE (twS n) 1).1).toNat)) else _) = _
    rw [hg]
    simp only
    rw [if_neg (by decide), show (0 : Int).toNat = 0 from rfl, Int.toNat_natCast, if_pos hr, show n + ((n : Int) - 0).toNat = 2 * n by omega]
    rfl
  rw [h0, h1, h2, h3, goE]
  show (if (insAt (twC n) (n + 1 + 2)).op = 14 then _ else _) = _
  rw [tw_end n 2]
  rfl
theorem tw_fir {n : Nat} (hn : n ≤ 30) (hs : 2 * n ≤ s.size) (hb : ∀ i, i < n → byt s i = byt s (n + i)) :
    (firE (twC n) 0 s fo 0 0 5000).2.2 = (true, 0) ∧ (firE (twC n) 0 s fo 0 0 5000).1.getD 1 0 = 2 * (n : Int) ∧ (firE (twC n) 0 s fo 0 0 5000).1.getD 3 0 = 0 ∧ (firE (twC n) 0 s fo 0 0 5000).1.getD 13 0 = (n : Int) := by
  have e : firE (twC n) 0 s fo 0 0 5000 = ansE (twC n) 0 s fo 1 0 5000 := fir_at (snd_tw hn) (j := 0) (st := 5000) (Nat.zero_le _) (Nat.le_refl _)
  have hg := tw_go (fo := fo) hs hb [] (5000 - n - 4)
  rw [show 5000 - n - 4 + n + 4 = 5000 by omega] at hg
  have ha : atE (twC n) s fo 0 (newE 0 5000) = (1, mcT [] (twS n) (n + 3) (2 * n) (5000 - n - 4)) := by
    unfold atE
    show tryE (twC n) s fo (5001 + 1) _ = _
    rw [tryE]
    have er : resE { newE 0 5000 with sd := (newE 0 5000).sd ++ [tyE 0] } = some ⟨[], [], tyE 0, [], 5000⟩ := rfl
    rw [er]
    simp only
    rw [hg]
    rfl
  obtain ⟨q1, q2⟩ := (ans_one (twC n) 0 s fo 0 5000).2 (by rw [ha])
  rw [e, q1, q2, ha]
  refine ⟨rfl, ?_, ?_, ?_⟩
  · show max (0 : Int) ((2 * n : Nat) : Int) = _
    omega
  · show (grpE (twS n) 1).1 = 0
    unfold grpE twS
    show (if ((0 : Int) = -1 ∨ (n : Int) < 0) then ((-1 : Int), (-1 : Int)) else ((0 : Int), (n : Int))).1 = 0
    rw [if_neg (by omega)]
  · show (grpE (twS n) 1).2 = n
    unfold grpE twS
    show (if ((0 : Int) = -1 ∨ (n : Int) < 0) then ((-1 : Int), (-1 : Int)) else ((0 : Int), (n : Int))).2 = n
    rw [if_neg (by omega)]
end
end Go.Proofs.Ytibgpkkgaekakaa
/- MatchTwins: digits, the walk. -/
namespace Go.Proofs.Ytibgpkkgaekakaa
open Go.ChangeShapes Go.WideShapes Go.ChangeAt Go.RowKit
set_option linter.unusedVariables false
set_option linter.unusedSimpArgs false
theorem byt_list (s : ByteArray) (k : Nat) : byt s k = ((s.data.toList[k]?).getD 0).toNat := by
  by_cases h : k < s.size
  · rw [byt_eq h]
    have h' : k < s.data.toList.length := by rw [Array.length_toList]; exact h
    rw [List.getElem?_eq_getElem h']
    rfl
  · unfold byt
    rw [getElem?_neg s k h, List.getElem?_eq_none (by rw [Array.length_toList]; exact Nat.le_of_not_lt h)]
theorem app_list (a b : ByteArray) : (a ++ b).data.toList = a.data.toList ++ b.data.toList := by simp
theorem size_list (s : ByteArray) : s.data.toList.length = s.size := by rw [Array.length_toList]; rfl
theorem tw_bytes (s more : ByteArray) : ∀ i, i < s.size → byt (s ++ s ++ more) i = byt (s ++ s ++ more) (s.size + i) := by
  intro i hi
  have hl := size_list s
  rw [byt_list, byt_list, app_list, app_list, List.append_assoc, List.getElem?_append_left (by omega), List.getElem?_append_right (by omega), hl, show s.size + i - s.size = i by omega, List.getElem?_append_left (by omega)]
set_option maxRecDepth 100000 in
theorem dig1 {n : Nat} (h : n < 10) (w : World) : Calls Try.prog 14 #[.int .i64 n] w fun e w' => e = .returned (.string ⟨#[UInt8.ofNat (48 + n)]⟩) ∧ Kp w w' := by
  have d10 : decide ((n : Int) < 10) = true := decide_eq_true (by omega)
  obtain ⟨cb, hcb⟩ : ∃ c, UInt8.ofNat (48 + n) = c := ⟨_, rfl⟩
  have ecb : cb.toNat = 48 + n := by rw [← hcb, UInt8.toNat_ofNat']; omega
  rw [hcb]
  have hcv := byte_str w (48 + (n : Int)) cb (by rw [ecb]; omega)
  clear hcb ecb
  go_enter Try.func14, Try.ntmps14
  go_wp2_with fail
  go_ret
  exact ⟨rfl, kp_alloc _ _⟩
set_option maxRecDepth 100000 in
set_option maxHeartbeats 4000000 in
theorem dig_m {n : Nat} (h : n < 100) (w : World) : Calls Try.prog 14 #[.int .i64 n] w fun e w' => e = .returned (.string ⟨(digS n).toArray⟩) ∧ Kp w w' := by
  unfold digS
  by_cases h10 : n < 10
  · rw [if_pos h10]
    exact dig1 h10 w
  rw [if_neg h10]
  have d10 : decide ((n : Int) < 10) = false := decide_eq_false (by omega)
  obtain ⟨p, hp⟩ : ∃ p, n / 10 = p := ⟨_, rfl⟩
  obtain ⟨q, hq⟩ : ∃ q, n % 10 = q := ⟨_, rfl⟩
  rw [hp, hq]
  have H1 : Hid _ := fun x => dig1 (n := p) (by omega) x
  have H2 : Hid _ := fun x => dig1 (n := q) (by omega) x
  have hw1 : (n : Int) / 10 = (p : Int) := by omega
  have hm1 : (n : Int) % 10 = (q : Int) := by omega
  obtain ⟨A, hA⟩ : ∃ c, UInt8.ofNat (48 + p) = c := ⟨_, rfl⟩
  obtain ⟨B, hB⟩ : ∃ c, UInt8.ofNat (48 + q) = c := ⟨_, rfl⟩
  rw [hA] at H1 ⊢
  rw [hB] at H2 ⊢
  have had : ∀ z : World, (Op.stringOp .add ⟨#[A]⟩ ⟨#[B]⟩).run Try.prog z = .ok (.string ⟨#[A, B]⟩) z := fun z => run_string_add_sum z ⟨#[A]⟩ ⟨#[B]⟩ (by show 1 + 1 ≤ _; omega)
  clear hp hq hA hB h10
  go_enter Try.func14, Try.ntmps14
  go_wp2_with fail
  refine Calls.mono (H1.out _) ?_
  rintro e w1 ⟨rfl, q1⟩
  have HQ1 : Hid (Kp w w1) := q1
  clear q1
  go_wp2_with fail
  refine Calls.mono (H2.out _) ?_
  rintro e w2 ⟨rfl, q2⟩
  have HQ2 : Hid (Kp w w2) := kp_trans HQ1.out q2
  clear q2
  go_wp2_with fail
  go_ret
  exact ⟨rfl, HQ2.out⟩
set_option maxHeartbeats 16000000 in
set_option maxRecDepth 100000 in
theorem twins_law (s more : ByteArray) (fold : Bool) (w : World) : Calls Try.prog 6 #[.string s, .string more, .bool fold] w fun e w' => e = .returned (.bool true) ∧ Kp w w' := by
  by_cases h1 : 30 < s.size
  · have dsa : decide ((s.size : Int) > 30) = true := decide_eq_true (by omega)
    have dsb : decide ((30 : Int) < (s.size : Int)) = true := decide_eq_true (by omega)
    have dsc : decide (30 < s.size) = true := decide_eq_true (by omega)
    clear h1
    go_enter Try.func6, Try.ntmps6
    go_wp2_with (go_at_call 10; refine Calls.mono (known_m _) ?_; rintro e w1 ⟨rfl, q⟩; have H1 : Hid (Kp w w1) := q; clear q)
    go_ret
    exact ⟨rfl, H1.out⟩
  have dsa : decide ((s.size : Int) > 30) = false := decide_eq_false (by omega)
  have dsb : decide ((30 : Int) < (s.size : Int)) = false := decide_eq_false (by omega)
  have dsc : decide (30 < s.size) = false := decide_eq_false (by omega)
  by_cases h2 : 30 < more.size
  · have dmorea : decide ((more.size : Int) > 30) = true := decide_eq_true (by omega)
    have dmoreb : decide ((30 : Int) < (more.size : Int)) = true := decide_eq_true (by omega)
    have dmorec : decide (30 < more.size) = true := decide_eq_true (by omega)
    clear h1 h2
    go_enter Try.func6, Try.ntmps6
    go_wp2_with (go_at_call 10; refine Calls.mono (known_m _) ?_; rintro e w1 ⟨rfl, q⟩; have H1 : Hid (Kp w w1) := q; clear q)
    go_ret
    exact ⟨rfl, H1.out⟩
  have dmorea : decide ((more.size : Int) > 30) = false := decide_eq_false (by omega)
  have dmoreb : decide ((30 : Int) < (more.size : Int)) = false := decide_eq_false (by omega)
  have dmorec : decide (30 < more.size) = false := decide_eq_false (by omega)
  have hn : s.size ≤ 30 := Nat.le_of_not_lt h1
  have hm : more.size ≤ 30 := Nat.le_of_not_lt h2
  clear h1 h2
  obtain ⟨n, hnn⟩ : ∃ n, s.size = n := ⟨_, rfl⟩
  have HON : Hid (cpdE (twP n) fold = (twC n, 0, fold)) := tw_cpd (by omega) fold
  obtain ⟨line, hline⟩ : ∃ l, s ++ s ++ more = l := ⟨_, rfl⟩
  have hls : line.size = 2 * n + more.size := by rw [← hline, ByteArray.size_append, ByteArray.size_append, hnn]; omega
  have hF := tw_fir (fo := fold) (s := line) (n := n) (by omega) (by omega) (fun i hi => by rw [← hline, ← hnn]; exact tw_bytes s more i (by omega))
  obtain ⟨⟨lA, nA, sA, eA⟩, hYA⟩ : ∃ ZZ, firE (twC n) 0 line fold 0 0 5000 = ZZ := ⟨_, rfl⟩
  rw [hYA] at hF
  simp only [Prod.mk.injEq] at hF
  obtain ⟨⟨rfl, rfl⟩, r1, r2, r3⟩ := hF
  obtain ⟨LA, hLA⟩ : ∃ L, slv lA = L := ⟨_, rfl⟩
  have hlA : lA.length = 22 := by have := firE_len (twC n) 0 line fold 0 0 5000; rw [hYA] at this; exact this
  have HLA : Hid (LA.length = 22 ∧ (∀ v ∈ LA, v.oneCell' = true)) := by rw [← hLA]; exact ⟨by rw [slv_len]; exact hlA, slv_one _⟩
  have HYA : Hid (ansV (firE (twC n) 0 line fold 0 0 5000) = .tuple #[.agg LA.toArray, .int .i64 nA, .bool true, .int .u16 0]) := by show _ = _; rw [hYA, ← hLA]; rfl
  have HD : Hid (LA[1]? = some (.int .i64 (2 * (n : Int))) ∧ LA[3]? = some (.int .i64 0) ∧ LA[13]? = some (.int .i64 n)) := by
    rw [← hLA]
    exact ⟨by rw [slv_get (by omega) 0, r1], by rw [slv_get (by omega) 0, r2], by rw [slv_get (by omega) 0, r3]⟩
  obtain ⟨D, hD⟩ : ∃ D : ByteArray, ⟨(digS n).toArray⟩ = D := ⟨_, rfl⟩
  have HDG : Hid (∀ z, Calls Try.prog 14 #[.int .i64 n] z fun e w' => e = .returned (.string D) ∧ Kp z w') := by intro z; have := dig_m (n := n) (by omega) z; rw [hD] at this; exact this
  have hDs : D.size ≤ 2 := by
    rw [← hD]
    unfold digS
    split
    · show 1 ≤ 2; omega
    · exact Nat.le_refl 2
  obtain ⟨P1, hP1⟩ : ∃ P, (⟨#[92, 40, 46, 92, 123]⟩ : ByteArray) ++ D = P := ⟨_, rfl⟩
  have hP1s : P1.size ≤ 7 := by rw [← hP1, ByteArray.size_append]; show 5 + D.size ≤ 7; omega
  have hP2 : P1 ++ ⟨#[125, 92, 41, 92, 49]⟩ = twP n := by
    rw [← hP1, ← hD]
    unfold twP
    apply ByteArray.ext
    simp
  obtain ⟨PT, hPT⟩ : ∃ P, twP n = P := ⟨_, rfl⟩
  rw [hPT] at hP2 HON
  obtain ⟨S2, hS2⟩ : ∃ S, s ++ s = S := ⟨_, rfl⟩
  have hS2s : S2.size ≤ 60 := by rw [← hS2, ByteArray.size_append]; omega
  rw [hS2] at hline
  have a1 : ∀ z : World, (Op.stringOp .add ⟨#[92, 40, 46, 92, 123]⟩ D).run Try.prog z = .ok (.string P1) z := fun z => by rw [← hP1]; exact run_string_add_sum z _ _ (by show 5 + D.size ≤ _; omega)
  have a2 : ∀ z : World, (Op.stringOp .add P1 ⟨#[125, 92, 41, 92, 49]⟩).run Try.prog z = .ok (.string PT) z := fun z => by rw [← hP2]; exact run_string_add_sum z _ _ (by show P1.size + 5 ≤ _; omega)
  have a3 : ∀ z : World, (Op.stringOp .add s s).run Try.prog z = .ok (.string S2) z := fun z => by rw [← hS2]; exact run_string_add_sum z _ _ (by omega)
  have a4 : ∀ z : World, (Op.stringOp .add S2 more).run Try.prog z = .ok (.string line) z := fun z => by rw [← hline]; exact run_string_add_sum z _ _ (by omega)
  have hl2 : line.size ≤ 1000000 := by omega
  have HN : Hid (s.size = n) := hnn
  clear hYA hLA hlA r1 r2 r3 hD hP1 hP2 hPT hS2 hline hls
  rw [hnn] at dsa dsb dsc hn
  go_enter Try.func6, Try.ntmps6
  go_upto_region 3 with (go_at_call 10; refine Calls.mono (known_m _) ?_; rintro e w1 ⟨rfl, q⟩; have H1 : Hid (Kp w w1) := q; clear q)
  go_upto_region 4 with (first | (go_at_call 14; refine Calls.mono (HDG.out _) ?_; rintro e v1 ⟨rfl, q⟩; have HV1 : Hid (Kp w v1) := kp_trans H1.out q; clear q) | (go_at_call 12; refine Calls.mono (compiled_any PT fold _) ?_; rw [HON.out]; rintro e v2 ⟨q1, cv, rfl, q2⟩; obtain ⟨ca, cc, rfl, u1, u2⟩ := owns_form q2; rw [tw_len] at u1 ⊢; have HV : Hid (Kp w v2 ∧ Cd v2 (.slice ca (n + 4) cc) (twC n)) := ⟨kp_trans HV1.out q1, by have := row_cd q2; rw [tw_len] at this; exact this⟩; clear q1 q2))
  obtain ⟨bp, hbp⟩ : ∃ b, v2.heap.size = b := ⟨_, rfl⟩
  obtain ⟨W2, hW2⟩ : ∃ W, v2.alloc (.cells #[.slice ca (n + 4) cc, .int .i64 0, .bool fold] 32) = W := ⟨_, rfl⟩
  have HW2 : Hid (Kp w W2 ∧ Lc 32 bp [.slice ca (n + 4) cc, .int .i64 0, .bool fold] W2 ∧ Cd W2 (.slice ca (n + 4) cc) (twC n)) := by
    rw [← hW2, ← hbp]
    exact ⟨kp_trans HV.out.1 (kp_alloc _ _), Lc.new v2 [.slice ca (n + 4) cc, .int .i64 0, .bool fold] _, HV.out.2.kp (kp_alloc _ _)⟩
  (try simp only [Int.natCast_zero])
  try rw [hW2]
  try rw [hbp]
  clear hW2 hbp u1 u2
  have p0 : W2.cell? ⟨bp, 0, none⟩ = some (.slice ca (n + 4) cc) := HW2.out.2.1.at rfl
  have p1 : W2.cell? ⟨bp, 1, none⟩ = some (.int .i64 0) := HW2.out.2.1.at rfl
  have p2 : W2.cell? ⟨bp, 2, none⟩ = some (.bool fold) := HW2.out.2.1.at rfl
  go_upto_region 5 with (first | (go_at_call 11; refine Calls.mono (at_m HW2.out.2.2 (ok_tw n) fold 0 line hl2 0 5000) ?_; rintro e tA ⟨q1, q2⟩; rw [HYA.out] at q1; subst q1; have HTA : Hid (Kp w tA) := kp_trans HW2.out.1 q2; clear q2; obtain ⟨mA, hmA⟩ : ∃ b, tA.heap.size = b := ⟨_, rfl⟩; obtain ⟨zA, hzA⟩ : ∃ W, tA.alloc (.cells #[.int .i64 0, .int .i64 0, .int .i64 0, .int .i64 0, .int .i64 0, .int .i64 0, .int .i64 0, .int .i64 0, .int .i64 0, .int .i64 0, .int .i64 0, .int .i64 0, .int .i64 0, .int .i64 0, .int .i64 0, .int .i64 0, .int .i64 0, .int .i64 0, .int .i64 0, .int .i64 0, .int .i64 0, .int .i64 0] 25) = W := ⟨_, rfl⟩; have HZA : Hid (Kp w zA ∧ Lc 25 mA z22 zA ∧ tA.heap.size = mA) := (by rw [← hzA, ← hmA]; exact ⟨kp_trans HTA.out (kp_alloc _ _), Lc.new tA z22 _, rfl⟩)) | (refine wpList_store_box HZA.out.2.1 0 LA rfl 25 (.tmp 8) (.tmp 40) rfl rfl rfl (by rw [Nat.zero_add, HLA.out.1]; exact Nat.le_refl _) (by rw [HLA.out.1]; exact sizeMatch) HLA.out.2 (sets_full _ _ (by rw [HLA.out.1]; rfl)) ?_; intro W3 q1 q2 q3; have HW3 : Hid (Kp w W3 ∧ Lc 25 mA LA W3) := ⟨HZA.out.1.trans (q2.below HZA.out.1.size fun j hj q => by unfold On at q; have h1 := HZA.out.2.2; have h2 := HTA.out.size; omega), q1⟩; clear q1 q2 q3))
  clear hmA hzA p0 p1 p2
  have g1 : W3.cell? ⟨mA, 1, none⟩ = some (.int .i64 (2 * (n : Int))) := HW3.out.2.at HD.out.1
  have g3 : W3.cell? ⟨mA, 3, none⟩ = some (.int .i64 0) := HW3.out.2.at HD.out.2.1
  have g13 : W3.cell? ⟨mA, 13, none⟩ = some (.int .i64 n) := HW3.out.2.at HD.out.2.2
  go_wp2_with fail
  go_ret
  exact ⟨rfl, HW3.out.1⟩
end Go.Proofs.Ytibgpkkgaekakaa
/- A byte so many times, plain: its code. -/
namespace Go.Proofs.Ytibgpkkgaekakaa
open Go.ChangeShapes Go.WideShapes Go.ChangeAt Go.RowKit
set_option linter.unusedVariables false
set_option linter.unusedSimpArgs false
def aI : Ins := { op := 1, c := 97 }
/-- The i-th try of a piece that is there n times at least: h tries in all. -/
def grT (n h : Nat) (lz : Bool) (i : Nat) : List Ins :=
  [{ op := 4, x := if lz then ((n + 4 * h : Nat) : Int) else ((n + 4 * i + 1 : Nat) : Int), y := if lz then ((n + 4 * i + 1 : Nat) : Int) else ((n + 4 * h : Nat) : Int) }, { op := 12, x := i }, aI, { op := 13, x := i }]
/-- The code of a\{n,n+h}, or of a\{-n,n+h}. -/
def grC (n h : Nat) (lz : Bool) : List Ins := List.replicate n aI ++ ((List.range h).flatMap (grT n h lz) ++ [{ op := 14 }])
def grP (n m : Nat) (lz : Bool) : ByteArray := ⟨([97, 92, 123] ++ (if lz then [45] else []) ++ digS n ++ [44] ++ digS m ++ [125]).toArray⟩
def chkG (lz : Bool) (n h : Nat) : Bool := eqL (cpdE2 (grP n (n + h) lz) false).1 (grC n h lz) && (cpdE2 (grP n (n + h) lz) false).2.1 == h && !(cpdE2 (grP n (n + h) lz) false).2.2
def nodG (n h : Nat) (lz : Bool) : List Nq := [⟨2, 97, zeroS, 0, 0, false, 0, []⟩, ⟨7, 0, zeroS, n, ((n + h : Nat) : Int), lz, 0, [0]⟩]
def eqN (a b : Nq) : Bool := a.op == b.op && a.c == b.c && a.set.a == b.set.a && a.set.b == b.set.b && a.set.c == b.set.c && a.set.d == b.set.d && a.mn == b.mn && a.mx == b.mx && a.lz == b.lz && a.n == b.n && a.kids == b.kids
theorem eqN_eq {a b : Nq} (h : eqN a b = true) : a = b := by
  obtain ⟨o, c, ⟨p, q, r, t⟩, x, y, z, u, v⟩ := a
  obtain ⟨o', c', ⟨p', q', r', t'⟩, x', y', z', u', v'⟩ := b
  unfold eqN at h
  simp only [Bool.and_eq_true, beq_iff_eq] at h
  obtain ⟨⟨⟨⟨⟨⟨⟨⟨⟨⟨rfl, rfl⟩, rfl⟩, rfl⟩, rfl⟩, rfl⟩, rfl⟩, rfl⟩, rfl⟩, rfl⟩, rfl⟩ := h
  rfl
/-- Is the pattern read so? -/
def chkR (lz : Bool) (n h : Nat) : Bool := match refF (grP n (n + h) lz) ⟨#[]⟩ with
  | .ok (root, r) => root == 1 && r.g == 0 && r.cs == 0 && (match r.nds.map Nd.q with | [a, b] => eqN a ⟨2, 97, zeroS, 0, 0, false, 0, []⟩ && eqN b ⟨7, 0, zeroS, n, ((n + h : Nat) : Int), lz, 0, [0]⟩ | _ => false) && sndR2 (nodG n h lz) 1 0
  | .error _ => false
set_option maxRecDepth 1000000 in
theorem chkR_all : ((List.range 30).all (fun n => (List.range 30).all (chkR false n)) && (List.range 30).all (fun n => (List.range 30).all (chkR true n))) = true := by kernel_rfl
end Go.Proofs.Ytibgpkkgaekakaa
/- A byte so many times, plain: the compiler. -/
namespace Go.Proofs.Ytibgpkkgaekakaa
open Go.ChangeShapes Go.WideShapes Go.ChangeAt Go.RowKit
set_option linter.unusedVariables false
set_option linter.unusedSimpArgs false
/-- What a round lays ahead of its split's ways being told. -/
def rawT (i : Nat) : List Ins := [{ op := 4 }, { op := 12, x := i }, aI, { op := 13, x := i }]
section
variable {n h : Nat} {lz : Bool}
theorem lay_short {c : List Ins} (r : Nat) (hx : c.length ≤ 2000) (d : Ins) : layE d ⟨c, r, false⟩ = (c.length, ⟨c ++ [d], r, false⟩) := by
  unfold layE; rw [if_neg (by show ¬ 2000 < c.length; omega)]
theorem nodA {f : Nat} {c : List Ins} (r : Nat) (hx : c.length ≤ 2000) : nodeE (nodG n h lz) (f + 1) 0 ⟨c, r, false⟩ = ⟨c ++ [aI], r, false⟩ := by
  rw [nodeE, if_neg (by show ¬ (false = true); decide)]
  show (layE aI ⟨c, r, false⟩).2 = _
  rw [lay_short r hx]
theorem repA (f : Nat) : ∀ (k : Nat) (c : List Ins) (r : Nat), c.length + k ≤ 2000 → repE (nodeE (nodG n h lz) (f + 1)) 0 k ⟨c, r, false⟩ = ⟨c ++ List.replicate k aI, r, false⟩ := by
  intro k
  induction k with
  | zero => intro c r _; rw [repE]; simp
  | succ k ih =>
    intro c r hx
    rw [repE, if_neg (by show ¬ (false = true); decide), nodA r (by omega), ih _ r (by rw [List.length_append]; show c.length + 1 + k ≤ 2000; omega)]
    rw [List.append_assoc, List.replicate_succ]
    rfl
theorem rouA (f : Nat) (c : List Ins) (r : Nat) (hx : c.length + 4 ≤ 2000) : roundE (nodeE (nodG n h lz) (f + 1)) 0 ⟨c, r, false⟩ = (c.length, ⟨c ++ rawT r, r + 1, false⟩) := by
  unfold roundE
  rw [lay_short r (by omega)]
  show (c.length, (layE { op := 13, x := r } (nodeE (nodG n h lz) (f + 1) 0 (layE { op := 12, x := r } ⟨c ++ [{ op := 4 }], r + 1, false⟩).2)).2) = _
  rw [lay_short (r + 1) (by rw [List.length_append]; show c.length + 1 ≤ 2000; omega)]
  show (c.length, (layE { op := 13, x := r } (nodeE (nodG n h lz) (f + 1) 0 ⟨c ++ [{ op := 4 }] ++ [{ op := 12, x := r }], r + 1, false⟩)).2) = _
  rw [nodA (r + 1) (by rw [List.length_append, List.length_append]; show c.length + 1 + 1 ≤ 2000; omega), lay_short (r + 1) (by rw [List.length_append, List.length_append, List.length_append]; show c.length + 1 + 1 + 1 ≤ 2000; omega)]
  show (c.length, (⟨c ++ [{ op := 4 }] ++ [{ op := 12, x := r }] ++ [aI] ++ [{ op := 13, x := r }], r + 1, false⟩ : Ds)) = _
  rw [List.append_assoc, List.append_assoc, List.append_assoc]
  rfl
theorem triA (f : Nat) : ∀ (k : Nat) (l : List Nat) (c : List Ins) (r : Nat), c.length + 4 * k ≤ 2000 → triesE (nodeE (nodG n h lz) (f + 1)) 0 k l ⟨c, r, false⟩ =
    (l ++ (List.range' 0 k).map (fun j => c.length + 4 * j), ⟨c ++ (List.range' r k).flatMap rawT, r + k, false⟩) := by
  intro k
  induction k with
  | zero => intro l c r _; rw [triesE]; simp
  | succ k ih =>
    intro l c r hx
    rw [triesE, if_neg (by show ¬ (false = true); decide), rouA f c r (by omega)]
    show triesE _ 0 k (l ++ [c.length]) ⟨c ++ rawT r, r + 1, false⟩ = _
    have e4 : (c ++ rawT r).length = c.length + 4 := by rw [List.length_append]; rfl
    rw [ih _ _ _ (by rw [e4]; omega), e4]
    have e1 : (List.range' 0 (k + 1)).map (fun j => c.length + 4 * j) = c.length :: (List.range' 0 k).map (fun j => c.length + 4 + 4 * j) := by
      rw [List.range'_succ, List.map_cons, List.range'_eq_map_range, List.range'_eq_map_range, List.map_map, List.map_map]
      congr 1
      refine List.map_congr_left fun j _ => ?_
      simp only [Function.comp]
      omega
    rw [e1, List.range'_succ, List.flatMap_cons, List.append_assoc, List.append_assoc, show r + 1 + k = r + (k + 1) by omega]
    rfl
theorem toL_mid (A B : List Ins) (i out : Nat) (lz : Bool) : toL (A ++ (rawT i ++ B)) A.length out lz = A ++ ([{ op := 4, x := if lz then (out : Int) else (A.length : Int) + 1, y := if lz then (A.length : Int) + 1 else (out : Int) }, { op := 12, x := i }, aI, { op := 13, x := i }] ++ B) := by
  unfold toL
  rw [List.getElem?_append_right (Nat.le_refl _), Nat.sub_self]
  show (A ++ (rawT i ++ B)).set A.length _ = _
  rw [List.set_append_right _ _ (Nat.le_refl _), Nat.sub_self]
  rfl
theorem tosA (hl : n + 4 * h ≤ 2000) : ∀ (k j : Nat) (x : Ds), j + k = h → x.c = List.replicate n aI ++ ((List.range j).flatMap (grT n h lz) ++ (List.range' j k).flatMap rawT) →
    tosE lz ((List.range' j k).map (fun i => n + 4 * i)) x = { x with c := List.replicate n aI ++ (List.range h).flatMap (grT n h lz) } := by
  intro k
  induction k with
  | zero =>
    intro j x hj hx
    rw [show j = h by omega] at hx
    simp at hx
    rw [List.range'_zero, List.map_nil, tosE, ← hx]
  | succ k ih =>
    intro j x hj hx
    have hlen : ∀ (m : Nat) (l : List Nat), (l.flatMap (grT n h lz)).length = 4 * l.length := by
      intro _ l
      induction l with
      | nil => rfl
      | cons a l ih2 => rw [List.flatMap_cons, List.length_append, ih2]; show 4 + _ = _; simp; omega
    have hlr : ∀ l : List Nat, (l.flatMap rawT).length = 4 * l.length := by
      intro l
      induction l with
      | nil => rfl
      | cons a l ih2 => rw [List.flatMap_cons, List.length_append, ih2]; show 4 + _ = _; simp; omega
    have hxl : x.c.length = n + 4 * h := by rw [hx]; simp [hlen 0, hlr]; omega
    have hA : (List.replicate n aI ++ (List.range j).flatMap (grT n h lz)).length = n + 4 * j := by simp [hlen 0]
    rw [List.range'_succ, List.map_cons, tosE, hxl]
    rw [List.range'_succ, List.flatMap_cons, ← List.append_assoc] at hx
    refine (ih (j + 1) _ (by omega) ?_).trans ?_
    · simp only
      rw [hx, ← hA, toL_mid, hA, List.range_succ, List.flatMap_append, List.flatMap_singleton, List.append_assoc, List.append_assoc]
      rfl
    · rfl
/-- The code of the pattern. -/
theorem grCode (hn : n ≤ 30) (hh : h ≤ 30) : cmpE2 (nodG n h lz) 1 0 0 false = if sndR2 (nodG n h lz) 1 0 = false then (1, [], 0, false) else (0, grC n h lz, h, false) := by
  have e : nodeE (nodG n h lz) 3 1 ⟨[], 0, false⟩ = ⟨List.replicate n aI ++ (List.range h).flatMap (grT n h lz), h, false⟩ := by
    rw [nodeE, if_neg (by decide)]
    show manyE (nodeE (nodG n h lz) 2) 0 ((n : Int)).toNat ((n + h : Nat) : Int) lz ⟨[], 0, false⟩ = _
    unfold manyE
    rw [Int.toNat_natCast, Int.toNat_natCast, repA 1 n [] 0 (by show 0 + n ≤ 2000; omega)]
    show (if false = true then _ else if ((n + h : Nat) : Int) < 0 then _ else _) = _
    rw [if_neg (by decide), if_neg (by omega), show n + h - n = h by omega, List.nil_append, triA 1 h [] _ 0 (by rw [List.length_replicate]; omega)]
    show tosE lz ((List.range' 0 h).map (fun j => (List.replicate n aI).length + 4 * j)) _ = _
    rw [List.length_replicate, tosA (h := h) (by omega) h 0 _ (by omega) (by rfl)]
    show (⟨_, 0 + h, false⟩ : Ds) = _
    rw [Nat.zero_add]
  have hlen : ∀ l : List Nat, (l.flatMap (grT n h lz)).length = 4 * l.length := by
    intro l
    induction l with
    | nil => rfl
    | cons a l ih2 => rw [List.flatMap_cons, List.length_append, ih2]; show 4 + _ = _; simp; omega
  have hl : (List.replicate n aI ++ (List.range h).flatMap (grT n h lz)).length = n + 4 * h := by rw [List.length_append, List.length_replicate, hlen, List.length_range]
  unfold cmpE2
  by_cases hs : sndR2 (nodG n h lz) 1 0 = false
  · rw [if_pos hs, if_pos hs]
  rw [if_neg hs, if_neg hs, show (nodG n h lz).length + 1 = 3 from rfl, e, lay_short h (by rw [hl]; omega)]
  have hl2 : (List.replicate n aI ++ (List.range h).flatMap (grT n h lz) ++ [({ op := 14 } : Ins)]).length = n + 4 * h + 1 := by rw [List.length_append, hl]; rfl
  rw [if_neg (by
    rintro (q | q)
    · cases q
    · have : 2000 < (List.replicate n aI ++ (List.range h).flatMap (grT n h lz) ++ [({ op := 14 } : Ins)]).length := q
      rw [hl2] at this; omega)]
  show (0, _ ++ [({ op := 14 } : Ins)], h, if (0 : Int) = 0 then false else _) = _
  rw [if_pos rfl, List.append_assoc]
  rfl
theorem gr_cpd (hn : n < 30) (hh : h < 30) : cpdE (grP n (n + h) lz) false = (grC n h lz, h, false) := by
  have hc := chkR_all
  rw [Bool.and_eq_true] at hc
  have hk : chkR lz n h = true := by
    cases lz
    · exact List.all_eq_true.1 (List.all_eq_true.1 hc.1 n (List.mem_range.2 hn)) h (List.mem_range.2 hh)
    · exact List.all_eq_true.1 (List.all_eq_true.1 hc.2 n (List.mem_range.2 hn)) h (List.mem_range.2 hh)
  rw [cpd_eq]
  unfold chkR at hk
  unfold cpdE2
  cases hr : refF (grP n (n + h) lz) ⟨#[]⟩ with
  | error E => rw [hr] at hk; cases hk
  | ok X =>
    obtain ⟨root, r⟩ := X
    rw [hr] at hk
    simp only [Bool.and_eq_true, beq_iff_eq] at hk
    obtain ⟨⟨⟨⟨h1, h2⟩, h3⟩, h4⟩, h5⟩ := hk
    have hN : r.nds.map Nd.q = nodG n h lz := by
      split at h4
      · rename_i a b q
        rw [Bool.and_eq_true] at h4
        rw [q, eqN_eq h4.1, eqN_eq h4.2]
        rfl
      · cases h4
    simp only
    rw [hN, h1, h2, h3]
    have := grCode (n := n) (h := h) (lz := lz) (by omega) (by omega)
    rw [h5, if_neg (by decide)] at this
    show (cmpE2 (nodG n h lz) 1 0 0 false).2 = _
    rw [this]
end
end Go.Proofs.Ytibgpkkgaekakaa
/- A byte so many times, plain: the machine. -/
namespace Go.Proofs.Ytibgpkkgaekakaa
open Go.ChangeShapes Go.WideShapes Go.ChangeAt Go.RowKit
set_option linter.unusedVariables false
set_option linter.unusedSimpArgs false
theorem flat4 (f : Nat → List Ins) (hf : ∀ i, (f i).length = 4) : ∀ (l : List Nat) (i j : Nat) (a : Nat), l[i]? = some a → j < 4 → (l.flatMap f)[4 * i + j]? = (f a)[j]?
  | [], i, j, a, h, _ => by simp at h
  | b :: l, 0, j, a, h, hj => by
    simp only [List.getElem?_cons_zero, Option.some.injEq] at h
    subst h
    rw [List.flatMap_cons, List.getElem?_append_left (by rw [hf]; omega), Nat.mul_zero, Nat.zero_add]
  | b :: l, i + 1, j, a, h, hj => by
    simp only [List.getElem?_cons_succ] at h
    rw [List.flatMap_cons, List.getElem?_append_right (by rw [hf]; omega), hf, show 4 * (i + 1) + j - 4 = 4 * i + j by omega]
    exact flat4 f hf l i j a h hj
section
variable {n h : Nat} {lz : Bool} {s : ByteArray}
theorem grT_len (i : Nat) : (grT n h lz i).length = 4 := rfl
theorem flat_len : ∀ l : List Nat, (l.flatMap (grT n h lz)).length = 4 * l.length
  | [] => rfl
  | a :: l => by rw [List.flatMap_cons, List.length_append, flat_len l, grT_len, List.length_cons]; omega
theorem gr_len : (grC n h lz).length = n + 4 * h + 1 := by
  unfold grC
  rw [List.length_append, List.length_append, List.length_replicate, flat_len, List.length_range]
  show n + (4 * h + 1) = _
  omega
theorem gi_a {i : Nat} (hi : i < n) : insAt (grC n h lz) i = aI := by
  unfold insAt grC
  rw [List.getD_eq_getElem?_getD, List.getElem?_append_left (by simpa using hi)]
  simp [hi]
theorem gi_t {i j : Nat} (hi : i < h) (hj : j < 4) : insAt (grC n h lz) (n + 4 * i + j) = (grT n h lz i).getD j { op := 14 } := by
  unfold insAt grC
  rw [List.getD_eq_getElem?_getD, List.getElem?_append_right (by rw [List.length_replicate]; omega), List.length_replicate, show n + 4 * i + j - n = 4 * i + j by omega, List.getElem?_append_left (by rw [flat_len, List.length_range]; omega), flat4 _ grT_len (List.range h) i j i (by simp [hi]) hj, ← List.getD_eq_getElem?_getD]
theorem gi_end : insAt (grC n h lz) (n + 4 * h) = { op := 14 } := by
  unfold insAt grC
  rw [List.getD_eq_getElem?_getD, List.getElem?_append_right (by rw [List.length_replicate]; omega), List.length_replicate, show n + 4 * h - n = 4 * h by omega, List.getElem?_append_right (by rw [flat_len, List.length_range]; omega), flat_len, List.length_range, Nat.sub_self]
  rfl
/-- A machine on its way. -/
def mcG (bg : List Int) (wt : List (Nat × Int)) (sd : List Ty) (nx k st : Nat) : Mc := ⟨bg, wt, ⟨(tyE 0).ss, nx, k, 0⟩, sd, st⟩
/-- The line is this byte alone. -/
def AllA (s : ByteArray) : Prop := ∀ k, k < s.size → byt s k = 97
theorem fit_a (ha : AllA s) {k : Nat} (hk : k < s.size) : fitB s false aI k = true := by
  unfold fitB
  rw [if_neg (by omega), if_pos (by rfl), ha k hk]
  rfl
theorem fit_e : fitB s false aI s.size = false := by unfold fitB; rw [if_pos rfl]
/-- One byte more. -/
theorem step_a (ha : AllA s) {bg : List Int} {wt : List (Nat × Int)} {sd : List Ty} {nx k st : Nat} (hi : insAt (grC n h lz) nx = aI) (hl : nx + 1 < n + 4 * h + 1) (hk : k < s.size) :
    goE (grC n h lz) s false (st + 1) (mcG bg wt sd nx k (st + 1)) = goE (grC n h lz) s false st (mcG bg wt sd (nx + 1) (k + 1) st) := by
  refine go_step (d := aI) (m := mcG bg wt sd nx k (st + 1)) hi (by decide) (by decide) (by decide) (by show nx + 1 < _; rw [gr_len]; exact hl) ?_
  show byteE s false aI _ = _
  unfold byteE
  show (if fitB s false aI k = true then _ else _) = _
  rw [if_pos (fit_a ha hk)]
  rfl
/-- No byte more. -/
theorem stop_a {bg : List Int} {wt : List (Nat × Int)} {sd : List Ty} {nx st : Nat} (hi : insAt (grC n h lz) nx = aI) (hl : nx + 1 < n + 4 * h + 1) :
    goE (grC n h lz) s false (st + 1) (mcG bg wt sd nx s.size (st + 1)) = (0, mcG bg wt sd (nx + 1) s.size st) := by
  have e : doE (grC n h lz).length s false aI ((mcG bg wt sd nx s.size (st + 1)).steps st) = (false, mcG bg wt sd (nx + 1) s.size st) := by
    unfold doE
    rw [if_neg (by decide), if_neg (by decide), if_pos (by show nx + 1 < _; rw [gr_len]; exact hl)]
    show byteE s false aI _ = _
    unfold byteE
    show (if fitB s false aI s.size = true then _ else _) = _
    rw [fit_e]
    rfl
  have hi' : insAt (grC n h lz) (mcG bg wt sd nx s.size (st + 1)).t.nx = aI := hi
  rw [goE, hi', if_neg (by decide), e]
  rfl
theorem ph1 (ha : AllA s) {bg : List Int} {wt : List (Nat × Int)} {sd : List Ty} : ∀ (j st : Nat), j ≤ n → j ≤ s.size → goE (grC n h lz) s false (st + j) (mcG bg wt sd 0 0 (st + j)) = goE (grC n h lz) s false st (mcG bg wt sd j j st) := by
  intro j
  induction j with
  | zero => intro st _ _; rfl
  | succ j ih =>
    intro st h1 h2
    rw [show st + (j + 1) = (st + 1) + j by omega, ih (st + 1) (by omega) (by omega)]
    exact step_a ha (gi_a (by omega)) (by omega) (by omega)
theorem end_m {bg : List Int} {wt : List (Nat × Int)} {sd : List Ty} {t : Ty} {st : Nat} (ht : t.nx = n + 4 * h) : goE (grC n h lz) s false (st + 1) ⟨bg, wt, t, sd, st + 1⟩ = (1, ⟨bg, wt, t, sd, st⟩) := by
  rw [goE]
  show (if (insAt (grC n h lz) t.nx).op = 14 then _ else _) = _
  rw [ht, gi_end]
  rfl
/-- A split. -/
theorem step_s {bg : List Int} {wt : List (Nat × Int)} {sd : List Ty} {i k st : Nat} (hi : i < h) :
    goE (grC n h lz) s false (st + 1) (mcG bg wt sd (n + 4 * i) k (st + 1)) = goE (grC n h lz) s false st (mcG bg wt (sd ++ [⟨(tyE 0).ss, if lz then n + 4 * i + 1 else n + 4 * h, k, wt.length⟩]) (if lz then n + 4 * h else n + 4 * i + 1) k st) := by
  have hd : insAt (grC n h lz) (n + 4 * i) = { op := 4, x := if lz then ((n + 4 * h : Nat) : Int) else ((n + 4 * i + 1 : Nat) : Int), y := if lz then ((n + 4 * i + 1 : Nat) : Int) else ((n + 4 * h : Nat) : Int) } := by
    have := gi_t (n := n) (lz := lz) (i := i) (j := 0) hi (by omega)
    rw [Nat.add_zero] at this
    exact this
  rw [goE]
  show (if (insAt (grC n h lz) (n + 4 * i)).op = 14 then _ else if (doE (grC n h lz).length s false (insAt (grC n h lz) (n + 4 * i)) ((mcG bg wt sd (n + 4 * i) k (st + 1)).steps st)).1 = true then goE (grC n h lz) s false st (doE (grC n h lz).length s false (insAt (grC n h lz) (n + 4 * i)) ((mcG bg wt sd (n + 4 * i) k (st + 1)).steps st)).2 else _) = _
  rw [hd, if_neg (by show ¬ (4 = 14); decide)]
  cases lz <;> rfl
/-- A try that goes on. -/
theorem step_t (ha : AllA s) {bg : List Int} {wt : List (Nat × Int)} {sd : List Ty} {i k st : Nat} (hi : i < h) (hb : bg.length = h) (hk : k < s.size) :
    goE (grC n h lz) s false (st + 3) (mcG bg wt sd (n + 4 * i + 1) k (st + 3)) = goE (grC n h lz) s false st (mcG (bg.set i k) (wt ++ [(i, bg.getD i 0)]) sd (n + 4 * (i + 1)) (k + 1) st) := by
  have h1 : goE (grC n h lz) s false (st + 3) (mcG bg wt sd (n + 4 * i + 1) k (st + 3)) = goE (grC n h lz) s false (st + 2) (mcG (bg.set i k) (wt ++ [(i, bg.getD i 0)]) sd (n + 4 * i + 2) k (st + 2)) :=
    go_step (d := { op := 12, x := i }) (m := mcG bg wt sd (n + 4 * i + 1) k (st + 3)) (n := st + 2) (gi_t hi (by omega)) (by show (12 : Nat) ≠ 14; decide) (by show (12 : Nat) ≠ 4; decide) (by show (12 : Nat) ≠ 5; decide) (by show n + 4 * i + 1 + 1 < _; rw [gr_len]; omega) rfl
  have h2 := step_a (n := n) (h := h) (lz := lz) ha (bg := bg.set i k) (wt := wt ++ [(i, bg.getD i 0)]) (sd := sd) (nx := n + 4 * i + 2) (k := k) (st := st + 1) (gi_t (j := 2) hi (by omega)) (by omega) hk
  have h3 : goE (grC n h lz) s false (st + 1) (mcG (bg.set i k) (wt ++ [(i, bg.getD i 0)]) sd (n + 4 * i + 3) (k + 1) (st + 1)) = goE (grC n h lz) s false st (mcG (bg.set i k) (wt ++ [(i, bg.getD i 0)]) sd (n + 4 * (i + 1)) (k + 1) st) := by
    refine go_step (d := { op := 13, x := i }) (m := mcG (bg.set i k) (wt ++ [(i, bg.getD i 0)]) sd (n + 4 * i + 3) (k + 1) (st + 1)) (n := st) (gi_t (j := 3) hi (by omega)) (by show (13 : Nat) ≠ 14; decide) (by show (13 : Nat) ≠ 4; decide) (by show (13 : Nat) ≠ 5; decide) (by show n + 4 * i + 3 + 1 < _; rw [gr_len]; omega) ?_
    show ((bg.set i (k : Int)).getD i 0 != ((k + 1 : Nat) : Int), mcG (bg.set i k) (wt ++ [(i, bg.getD i 0)]) sd (n + 4 * i + 3 + 1) (k + 1) st) = _
    rw [List.getD_eq_getElem?_getD, List.getElem?_set_self (by omega), show n + 4 * i + 3 + 1 = n + 4 * (i + 1) by omega]
    congr 1
    simp only [Option.getD_some, bne_iff_ne, ne_eq]
    omega
  rw [h1, h2, h3]
/-- .. or not. -/
theorem stop_t {bg : List Int} {wt : List (Nat × Int)} {sd : List Ty} {i st : Nat} (hi : i < h) :
    (goE (grC n h lz) s false (st + 2) (mcG bg wt sd (n + 4 * i + 1) s.size (st + 2))).1 = 0 ∧ (goE (grC n h lz) s false (st + 2) (mcG bg wt sd (n + 4 * i + 1) s.size (st + 2))).2.sd = sd ∧ (goE (grC n h lz) s false (st + 2) (mcG bg wt sd (n + 4 * i + 1) s.size (st + 2))).2.st = st := by
  have h1 : goE (grC n h lz) s false (st + 2) (mcG bg wt sd (n + 4 * i + 1) s.size (st + 2)) = goE (grC n h lz) s false (st + 1) (mcG (bg.set i s.size) (wt ++ [(i, bg.getD i 0)]) sd (n + 4 * i + 2) s.size (st + 1)) :=
    go_step (d := { op := 12, x := i }) (m := mcG bg wt sd (n + 4 * i + 1) s.size (st + 2)) (n := st + 1) (gi_t hi (by omega)) (by show (12 : Nat) ≠ 14; decide) (by show (12 : Nat) ≠ 4; decide) (by show (12 : Nat) ≠ 5; decide) (by show n + 4 * i + 1 + 1 < _; rw [gr_len]; omega) rfl
  rw [h1, stop_a (gi_t (j := 2) hi (by omega)) (by omega)]
  exact ⟨rfl, rfl, rfl⟩
/-- All tries of a piece that takes as many as there are. -/
theorem gr_run (ha : AllA s) : ∀ (d i : Nat), i + d = h → n + i ≤ s.size → ∀ (bg : List Int) (wt : List (Nat × Int)) (sd : List Ty) (st : Nat), bg.length = h → 4 * d + 5 ≤ st →
    ((goE (grC n h false) s false st (mcG bg wt sd (n + 4 * i) (n + i) st)).1 = 1 ∧ (∃ nx ch, (goE (grC n h false) s false st (mcG bg wt sd (n + 4 * i) (n + i) st)).2.t = ⟨(tyE 0).ss, nx, n + h, ch⟩) ∧ n + h ≤ s.size) ∨
    ((goE (grC n h false) s false st (mcG bg wt sd (n + 4 * i) (n + i) st)).1 = 0 ∧ (∃ l ch, (goE (grC n h false) s false st (mcG bg wt sd (n + 4 * i) (n + i) st)).2.sd = l ++ [⟨(tyE 0).ss, n + 4 * h, s.size, ch⟩]) ∧ 1 ≤ (goE (grC n h false) s false st (mcG bg wt sd (n + 4 * i) (n + i) st)).2.st ∧ s.size < n + h) := by
  intro d
  induction d with
  | zero =>
    intro i hi hk bg wt sd st hb hst
    obtain rfl : i = h := by omega
    obtain ⟨q, rfl⟩ : ∃ q, st = q + 1 := ⟨st - 1, by omega⟩
    left
    have e := end_m (n := n) (h := i) (lz := false) (s := s) (bg := bg) (wt := wt) (sd := sd) (t := ⟨(tyE 0).ss, n + 4 * i, n + i, 0⟩) (st := q) rfl
    have e' : goE (grC n i false) s false (q + 1) (mcG bg wt sd (n + 4 * i) (n + i) (q + 1)) = _ := e
    rw [e']
    exact ⟨rfl, ⟨_, _, rfl⟩, hk⟩
  | succ d ih =>
    intro i hi hk bg wt sd st hb hst
    by_cases hs : n + i < s.size
    · obtain ⟨q, rfl⟩ : ∃ q, st = q + 3 + 1 := ⟨st - 4, by omega⟩
      have e1 := step_s (n := n) (h := h) (lz := false) (s := s) (bg := bg) (wt := wt) (sd := sd) (i := i) (k := n + i) (st := q + 3) (by omega)
      have e2 := step_t (n := n) (h := h) (lz := false) ha (bg := bg) (wt := wt) (sd := sd ++ [⟨(tyE 0).ss, n + 4 * h, n + i, wt.length⟩]) (i := i) (k := n + i) (st := q) (by omega) hb hs
      have e3 : goE (grC n h false) s false (q + 3 + 1) (mcG bg wt sd (n + 4 * i) (n + i) (q + 3 + 1)) = goE (grC n h false) s false q (mcG (bg.set i ((n + i : Nat) : Int)) (wt ++ [(i, bg.getD i 0)]) (sd ++ [⟨(tyE 0).ss, n + 4 * h, n + i, wt.length⟩]) (n + 4 * (i + 1)) (n + (i + 1)) q) := e1.trans e2
      rw [e3]
      exact ih (i + 1) (by omega) (by omega) _ _ _ _ (by rw [List.length_set]; exact hb) (by omega)
    · have hs2 : n + i = s.size := by omega
      obtain ⟨q, rfl⟩ : ∃ q, st = q + 2 + 1 := ⟨st - 3, by omega⟩
      right
      have e1 := step_s (n := n) (h := h) (lz := false) (s := s) (bg := bg) (wt := wt) (sd := sd) (i := i) (k := n + i) (st := q + 2) (by omega)
      rw [hs2] at e1
      have e1' : goE (grC n h false) s false (q + 2 + 1) (mcG bg wt sd (n + 4 * i) s.size (q + 2 + 1)) = goE (grC n h false) s false (q + 2) (mcG bg wt (sd ++ [⟨(tyE 0).ss, n + 4 * h, s.size, wt.length⟩]) (n + 4 * i + 1) s.size (q + 2)) := e1
      have e2 := stop_t (n := n) (h := h) (lz := false) (s := s) (bg := bg) (wt := wt) (sd := sd ++ [⟨(tyE 0).ss, n + 4 * h, s.size, wt.length⟩]) (i := i) (st := q) (by omega)
      rw [hs2, e1']
      exact ⟨e2.1, ⟨sd, wt.length, e2.2.1⟩, by rw [e2.2.2]; omega, by omega⟩
end
end Go.Proofs.Ytibgpkkgaekakaa
/- A byte so many times, plain: what At answers. -/
namespace Go.Proofs.Ytibgpkkgaekakaa
open Go.ChangeShapes Go.WideShapes Go.ChangeAt Go.RowKit
set_option linter.unusedVariables false
set_option linter.unusedSimpArgs false
section
variable {n h : Nat} {lz : Bool} {s : ByteArray}
theorem ok_gr : ∀ d ∈ grC n h lz, d.set.ok := by
  intro d hd
  unfold grC at hd
  rcases List.mem_append.1 hd with hd | hd
  · rw [(List.mem_replicate.1 hd).2]; exact ok_zero
  rcases List.mem_append.1 hd with hd | hd
  · obtain ⟨i, _, hd⟩ := List.mem_flatMap.1 hd
    unfold grT at hd
    simp only [List.mem_cons, List.not_mem_nil, or_false] at hd
    rcases hd with rfl | rfl | rfl | rfl <;> exact ok_zero
  · simp only [List.mem_singleton] at hd; subst hd; exact ok_zero
theorem snd_gr (hn : n < 30) (hh : h < 30) : sndF (grC n h lz) (h : Int) = true := by
  unfold sndF
  rw [Bool.and_eq_true, Bool.and_eq_true]
  refine ⟨⟨?_, ?_⟩, ?_⟩
  · unfold sizeB
    rw [gr_len]
    simp
    omega
  · rw [List.all_eq_true]
    intro d hd
    unfold grC at hd
    rcases List.mem_append.1 hd with hd | hd
    · rw [(List.mem_replicate.1 hd).2]; rfl
    rcases List.mem_append.1 hd with hd | hd
    · obtain ⟨i, hi, hd⟩ := List.mem_flatMap.1 hd
      have hi' := List.mem_range.1 hi
      rw [gr_len]
      unfold grT at hd
      simp only [List.mem_cons, List.not_mem_nil, or_false] at hd
      rcases hd with rfl | rfl | rfl | rfl
      · unfold fitD plB
        rw [if_pos rfl]
        cases lz <;> simp <;> omega
      · unfold fitD plB
        simp
        omega
      · rfl
      · unfold fitD plB
        simp
        omega
    · simp only [List.mem_singleton] at hd; subst hd; rfl
  · unfold lastB grC
    rw [← List.append_assoc, List.getLast?_append]
    rfl
/-- The machine's answer at the line's beginning. -/
theorem gr_at (ha : AllA s) (hn : n < 30) (hh : h < 30) :
    (s.size < n → (atE (grC n h lz) s false 0 (newE h 5000)).1 = 0) ∧
    (n ≤ s.size → (atE (grC n h lz) s false 0 (newE h 5000)).1 = 1 ∧ ∃ nx ch, (atE (grC n h lz) s false 0 (newE h 5000)).2.t = ⟨(tyE 0).ss, nx, if lz then n else min s.size (n + h), ch⟩) := by
  have er : resE { newE h 5000 with sd := (newE h 5000).sd ++ [tyE 0] } = some (mcG (List.replicate h 0) [] [] 0 0 5000) := rfl
  have e0 : atE (grC n h lz) s false 0 (newE h 5000) = if (goE (grC n h lz) s false 5000 (mcG (List.replicate h 0) [] [] 0 0 5000)).1 = 0 then tryE (grC n h lz) s false 5001 (goE (grC n h lz) s false 5000 (mcG (List.replicate h 0) [] [] 0 0 5000)).2 else goE (grC n h lz) s false 5000 (mcG (List.replicate h 0) [] [] 0 0 5000) := by
    unfold atE
    show tryE (grC n h lz) s false (5001 + 1) _ = _
    rw [tryE, er]
    rfl
  constructor
  · intro hs
    have h1 := ph1 (n := n) (h := h) (lz := lz) ha (bg := List.replicate h 0) (wt := []) (sd := []) s.size (5000 - s.size) (by omega) (Nat.le_refl _)
    rw [show 5000 - s.size + s.size = 5000 by omega, show 5000 - s.size = (4999 - s.size) + 1 by omega, stop_a (gi_a hs) (by omega)] at h1
    rw [e0, h1, if_pos rfl]
    show (tryE (grC n h lz) s false (5000 + 1) _).1 = 0
    rw [tryE]
    rfl
  · intro hs
    have h1 := ph1 (n := n) (h := h) (lz := lz) ha (bg := List.replicate h 0) (wt := []) (sd := []) n (5000 - n) (Nat.le_refl _) hs
    rw [show 5000 - n + n = 5000 by omega] at h1
    rw [h1] at e0
    cases lz with
    | true =>
      have h2 : ∃ m : Mc, goE (grC n h true) s false (5000 - n) (mcG (List.replicate h 0) [] [] n n (5000 - n)) = (1, m) ∧ m.t.ss = (tyE 0).ss ∧ m.t.k = n := by
        rcases Nat.eq_zero_or_pos h with q | q
        · subst q
          have := end_m (n := n) (h := 0) (lz := true) (s := s) (bg := []) (wt := []) (sd := []) (t := ⟨(tyE 0).ss, n, n, 0⟩) (st := 4999 - n) (by show n = n + 4 * 0; omega)
          rw [show 4999 - n + 1 = 5000 - n by omega] at this
          exact ⟨_, this, rfl, rfl⟩
        · have e1 := step_s (n := n) (h := h) (lz := true) (s := s) (bg := List.replicate h 0) (wt := []) (sd := []) (i := 0) (k := n) (st := 4999 - n) q
          rw [show 4999 - n + 1 = 5000 - n by omega, Nat.mul_zero, Nat.add_zero] at e1
          have e2 := end_m (n := n) (h := h) (lz := true) (s := s) (bg := List.replicate h 0) (wt := []) (sd := [] ++ [⟨(tyE 0).ss, n + 1, n, 0⟩]) (t := ⟨(tyE 0).ss, n + 4 * h, n, 0⟩) (st := 4998 - n) rfl
          rw [show 4998 - n + 1 = 4999 - n by omega] at e2
          exact ⟨_, e1.trans e2, rfl, rfl⟩
      obtain ⟨m, q1, q2, q3⟩ := h2
      rw [q1, if_neg (by show ¬ (1 = 0); decide)] at e0
      rw [e0]
      refine ⟨rfl, m.t.nx, m.t.ch, ?_⟩
      show m.t = _
      rw [if_pos rfl, ← q2, ← q3]
    | false =>
      have h2 := gr_run (n := n) (h := h) ha h 0 (by omega) hs (List.replicate h 0) [] [] (5000 - n) (by simp) (by omega)
      rw [Nat.mul_zero, Nat.add_zero] at h2
      rcases h2 with ⟨q1, ⟨nx, ch, q2⟩, q3⟩ | ⟨q1, ⟨l, ch, q2⟩, q3, q4⟩
      · rw [if_neg (by rw [q1]; decide)] at e0
        rw [e0]
        refine ⟨q1, nx, ch, ?_⟩
        rw [q2, if_neg (by decide), Nat.min_eq_right q3]
      · rw [if_pos q1] at e0
        generalize goE (grC n h false) s false (5000 - n) (mcG (List.replicate h 0) [] [] n n (5000 - n)) = G at *
        obtain ⟨q, hq⟩ : ∃ q, G.2.st = q + 1 := ⟨G.2.st - 1, by omega⟩
        have er2 : resE G.2 = some (backE ch { G.2 with t := ⟨(tyE 0).ss, n + 4 * h, s.size, ch⟩, sd := l }) := by unfold resE; rw [q2]; simp
        have e3 : goE (grC n h false) s false (q + 1) (backE ch { G.2 with t := ⟨(tyE 0).ss, n + 4 * h, s.size, ch⟩, sd := l }) = (1, (backE ch { G.2 with t := ⟨(tyE 0).ss, n + 4 * h, s.size, ch⟩, sd := l }).steps q) := by
          have := end_m (n := n) (h := h) (lz := false) (s := s) (bg := (backE ch { G.2 with t := ⟨(tyE 0).ss, n + 4 * h, s.size, ch⟩, sd := l }).bg) (wt := (backE ch { G.2 with t := ⟨(tyE 0).ss, n + 4 * h, s.size, ch⟩, sd := l }).wt) (sd := l) (t := ⟨(tyE 0).ss, n + 4 * h, s.size, ch⟩) (st := q) rfl
          rw [← hq] at this ⊢
          exact this
        have e4 : tryE (grC n h false) s false 5001 G.2 = (1, (backE ch { G.2 with t := ⟨(tyE 0).ss, n + 4 * h, s.size, ch⟩, sd := l }).steps q) := by
          show tryE (grC n h false) s false (5000 + 1) G.2 = _
          rw [tryE, er2]
          have est : (backE ch { G.2 with t := ⟨(tyE 0).ss, n + 4 * h, s.size, ch⟩, sd := l }).st = q + 1 := hq
          simp only
          rw [est, e3]
          rfl
        rw [e0, e4]
        refine ⟨rfl, n + 4 * h, ch, ?_⟩
        rw [if_neg (by decide), Nat.min_eq_left (by omega)]
        rfl
theorem gr_fir (ha : AllA s) (hn : n < 30) (hh : h < 30) : (firE (grC n h lz) h s false 0 0 5000).2.2 = (decide (n ≤ s.size), 0) ∧
    (n ≤ s.size → (firE (grC n h lz) h s false 0 0 5000).1.getD 0 0 = 0 ∧ (firE (grC n h lz) h s false 0 0 5000).1.getD 1 0 = ((if lz then n else min s.size (n + h) : Nat) : Int)) := by
  have e : firE (grC n h lz) h s false 0 0 5000 = ansE (grC n h lz) h s false 1 0 5000 := fir_at (snd_gr hn hh) (j := 0) (st := 5000) (Nat.zero_le _) (Nat.le_refl _)
  obtain ⟨g1, g2⟩ := gr_at (lz := lz) ha hn hh
  have q := ans_one (grC n h lz) h s false 0 5000
  rw [e]
  by_cases hs : n ≤ s.size
  · obtain ⟨r1, nx, ch, r2⟩ := g2 hs
    obtain ⟨p1, p2⟩ := q.2 r1
    rw [p1, p2, r2, decide_eq_true hs]
    refine ⟨rfl, fun _ => ⟨rfl, ?_⟩⟩
    show max (0 : Int) ((if lz then n else min s.size (n + h) : Nat) : Int) = _
    omega
  · rw [q.1 (g1 (by omega)), decide_eq_false hs]
    exact ⟨rfl, fun z => absurd z hs⟩
end
end Go.Proofs.Ytibgpkkgaekakaa
