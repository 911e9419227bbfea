/- Texts that the proof of the law stands on: Eval2, PTimes, PLong0, PLong. -/
import Derived.Test.YtlgemficalcghaaGreatPartI
/- Two bounds, and one, in braces. -/
namespace Go.Proofs.YtlgemficalcghaaGreat
open Go.ChangeShapes Go.WideShapes Go.ChangeAt Go.RowKit
set_option linter.unusedVariables false
set_option linter.unusedSimpArgs false
def lzL (b : Bool) : List UInt8 := if b then [45] else []
theorem lzL_len (b : Bool) : (lzL b).length = if b then 1 else 0 := by cases b <;> rfl
theorem hp_cons (x y : UInt8) (r : List UInt8) : Lib.hasPrefix (x :: r) [y] = (x == y) := by simp [Lib.hasPrefix, List.isPrefixOf, Bool.beq_comm]
theorem lz_pfx (b : Bool) {n : Nat} (hn : n < 1200) (r : List UInt8) : Lib.hasPrefix (lzL b ++ (dG n ++ r)) [45] = b := by
  have h1 := dG_len hn
  have h2 := dG_head hn
  cases b with
  | true => rfl
  | false =>
    cases hd : dG n with
    | nil => rw [hd] at h1; simp at h1
    | cons x xs =>
      rw [hd] at h2
      simp only [List.head?_cons, ne_eq, Option.some.injEq] at h2
      show Lib.hasPrefix (x :: (xs ++ r)) [45] = false
      rw [hp_cons]
      simpa using h2
def x1 (b : Bool) (n m : Nat) : List UInt8 := lzL b ++ (dG n ++ 44 :: (dG m ++ [125]))
def x2 (b : Bool) (n : Nat) : List UInt8 := lzL b ++ (dG n ++ [92, 125])
theorem bnd1 (b : Bool) {n m : Nat} (hn : n < 1200) (hm : m < 1200) : bndF ⟨([97, 92, 123] ++ x1 b n m).toArray⟩ 3 = if n ≤ 60 ∧ m ≤ 60 ∧ n ≤ m then some (n, (m : Int), b, (x1 b n m).length + 3) else none := by
  have ln := dG_len hn
  have lm := dG_len hm
  have hz := lzL_len b
  have p0 : pfx ⟨([97, 92, 123] ++ x1 b n m).toArray⟩ 3 ⟨#[45]⟩ = b := by
    rw [pfx_at (pre := [97, 92, 123]) (r := x1 b n m) (t := [45]) (k := 3) rfl rfl]
    exact lz_pfx b hn _
  obtain ⟨k0, hk0⟩ : ∃ k0, (if b = true then 3 + 1 else 3) = k0 := ⟨_, rfl⟩
  have hk0' : ([97, 92, 123] ++ lzL b).length = k0 := by rw [← hk0]; cases b <;> rfl
  have n0 := num_at (l := [97, 92, 123] ++ x1 b n m) (pre := [97, 92, 123] ++ lzL b) (n := n) (c := 44) (r := dG m ++ [125]) (k := k0) (by simp [x1]) hk0' hn (by decide)
  have p1 : pfx ⟨([97, 92, 123] ++ x1 b n m).toArray⟩ (k0 + (dG n).length) ⟨#[44]⟩ = true := by
    rw [pfx_at (pre := [97, 92, 123] ++ lzL b ++ dG n) (r := 44 :: (dG m ++ [125])) (t := [44]) (by simp [x1]) (by rw [List.length_append, hk0']), hp_cons]
    rfl
  have n1 := num_at (l := [97, 92, 123] ++ x1 b n m) (pre := [97, 92, 123] ++ lzL b ++ dG n ++ [44]) (n := m) (c := 125) (r := []) (k := k0 + (dG n).length + 1) (by simp [x1]) (by rw [List.length_append, List.length_append, hk0']; rfl) hm (by decide)
  have p2 : pfx ⟨([97, 92, 123] ++ x1 b n m).toArray⟩ (k0 + (dG n).length + 1 + (dG m).length) ⟨#[125]⟩ = true := by
    rw [pfx_at (pre := [97, 92, 123] ++ lzL b ++ dG n ++ [44] ++ dG m) (r := [125]) (t := [125]) (by simp [x1]) (by rw [List.length_append, List.length_append, List.length_append, hk0']; rfl), hp_cons]
    rfl
  have hlen : k0 + (dG n).length + 1 + (dG m).length + 1 = (x1 b n m).length + 3 := by
    rw [← hk0']; simp [x1]; omega
  unfold bndF
  simp only [p0, hk0, n0]
  by_cases hn6 : n ≤ 60
  · rw [if_pos hn6]
    simp only [p1, n1, if_true]
    by_cases hm6 : m ≤ 60
    · rw [if_pos hm6]
      have hmx : (if k0 + (dG n).length + 1 < k0 + (dG n).length + 1 + (dG m).length then (m : Int) else -1) = (m : Int) := if_pos (by omega)
      simp only [finF, p2, if_true, hmx]
      by_cases hnm : n ≤ m
      · rw [if_neg (by omega), if_pos ⟨hn6, hm6, hnm⟩, hlen]
      · rw [if_pos (by omega), if_neg (by omega)]
    · rw [if_neg hm6, if_neg (by omega)]
  · rw [if_neg hn6, if_neg (by omega)]
theorem bnd2 (b : Bool) {n : Nat} (hn : n < 1200) : bndF ⟨([97, 92, 123] ++ x2 b n).toArray⟩ 3 = if n ≤ 60 then some (n, (n : Int), b, (x2 b n).length + 3) else none := by
  have ln := dG_len hn
  have hz := lzL_len b
  have p0 : pfx ⟨([97, 92, 123] ++ x2 b n).toArray⟩ 3 ⟨#[45]⟩ = b := by
    rw [pfx_at (pre := [97, 92, 123]) (r := x2 b n) (t := [45]) (k := 3) rfl rfl]
    exact lz_pfx b hn _
  obtain ⟨k0, hk0⟩ : ∃ k0, (if b = true then 3 + 1 else 3) = k0 := ⟨_, rfl⟩
  have hk0' : ([97, 92, 123] ++ lzL b).length = k0 := by rw [← hk0]; cases b <;> rfl
  have n0 := num_at (l := [97, 92, 123] ++ x2 b n) (pre := [97, 92, 123] ++ lzL b) (n := n) (c := 92) (r := [125]) (k := k0) (by simp [x2]) hk0' hn (by decide)
  have hp : ∀ t : List UInt8, pfx ⟨([97, 92, 123] ++ x2 b n).toArray⟩ (k0 + (dG n).length) ⟨t.toArray⟩ = Lib.hasPrefix [92, 125] t := fun t =>
    pfx_at (pre := [97, 92, 123] ++ lzL b ++ dG n) (r := [92, 125]) (t := t) (by simp [x2]) (by rw [List.length_append, hk0'])
  have p1 : pfx ⟨([97, 92, 123] ++ x2 b n).toArray⟩ (k0 + (dG n).length) ⟨#[44]⟩ = false := by rw [hp]; rfl
  have p2 : pfx ⟨([97, 92, 123] ++ x2 b n).toArray⟩ (k0 + (dG n).length) ⟨#[125]⟩ = false := by rw [hp]; rfl
  have p3 : pfx ⟨([97, 92, 123] ++ x2 b n).toArray⟩ (k0 + (dG n).length) ⟨#[92, 125]⟩ = true := by rw [hp]; rfl
  have hlen : k0 + (dG n).length + 2 = (x2 b n).length + 3 := by
    rw [← hk0']; simp [x2]; omega
  unfold bndF
  simp only [p0, hk0, n0]
  by_cases hn6 : n ≤ 60
  · rw [if_pos hn6, if_pos hn6]
    have hmx : (if k0 < k0 + (dG n).length then (n : Int) else -1) = (n : Int) := if_pos (by omega)
    simp only [p1, finF, p2, p3, if_true, Bool.false_eq_true, if_false, hmx]
    rw [if_neg (by omega), hlen]
  · rw [if_neg hn6, if_neg hn6]
end Go.Proofs.YtlgemficalcghaaGreat
/- ProgTimes: the walk. -/
namespace Go.Proofs.YtlgemficalcghaaGreat
open Go.ChangeShapes Go.WideShapes Go.ChangeAt Go.RowKit
set_option linter.unusedVariables false
set_option linter.unusedSimpArgs false
def x3 (b : Bool) (n : Nat) : List UInt8 := lzL b ++ (dG n ++ [44, 125])
theorem bnd3 (b : Bool) {n : Nat} (hn : n ≤ 60) : bndF ⟨([97, 92, 123] ++ x3 b n).toArray⟩ 3 = some (n, -1, b, (x3 b n).length + 3) := by
  have hn' : n < 1200 := by omega
  have ln := dG_len hn'
  have hz := lzL_len b
  have p0 : pfx ⟨([97, 92, 123] ++ x3 b n).toArray⟩ 3 ⟨#[45]⟩ = b := by
    rw [pfx_at (pre := [97, 92, 123]) (r := x3 b n) (t := [45]) (k := 3) rfl rfl]
    exact lz_pfx b hn' _
  obtain ⟨k0, hk0⟩ : ∃ k0, (if b = true then 3 + 1 else 3) = k0 := ⟨_, rfl⟩
  have hk0' : ([97, 92, 123] ++ lzL b).length = k0 := by rw [← hk0]; cases b <;> rfl
  have n0 := num_at (l := [97, 92, 123] ++ x3 b n) (pre := [97, 92, 123] ++ lzL b) (n := n) (c := 44) (r := [125]) (k := k0) (by simp [x3]) hk0' hn' (by decide)
  have p1 : pfx ⟨([97, 92, 123] ++ x3 b n).toArray⟩ (k0 + (dG n).length) ⟨#[44]⟩ = true := by
    rw [pfx_at (pre := [97, 92, 123] ++ lzL b ++ dG n) (r := [44, 125]) (t := [44]) (by simp [x3]) (by rw [List.length_append, hk0']), hp_cons]
    rfl
  have n1 : numF ⟨([97, 92, 123] ++ x3 b n).toArray⟩ (k0 + (dG n).length + 1) = some (0, k0 + (dG n).length + 1) := by
    rw [numF_list (by rw [← hk0']; simp [x3]; omega)]
    have e : ([97, 92, 123] ++ x3 b n).drop (k0 + (dG n).length + 1) = [125] := by
      rw [show [97, 92, 123] ++ x3 b n = ([97, 92, 123] ++ lzL b ++ dG n ++ [44]) ++ [125] by simp [x3], List.drop_left' (by rw [List.length_append, List.length_append, hk0']; rfl)]
    rw [e]
    rfl
  have p2 : pfx ⟨([97, 92, 123] ++ x3 b n).toArray⟩ (k0 + (dG n).length + 1) ⟨#[125]⟩ = true := by
    rw [pfx_at (pre := [97, 92, 123] ++ lzL b ++ dG n ++ [44]) (r := [125]) (t := [125]) (by simp [x3]) (by rw [List.length_append, List.length_append, hk0']; rfl), hp_cons]
    rfl
  have hlen : k0 + (dG n).length + 1 + 1 = (x3 b n).length + 3 := by
    rw [← hk0']; simp [x3]; omega
  unfold bndF
  simp only [p0, hk0, n0]
  rw [if_pos hn]
  simp only [p1, n1, if_true, finF, p2]
  rw [if_neg (by omega), if_neg (by omega), hlen]
/-- The nodes, and the tree, of a letter with bounds. -/
def tmN (n : Nat) (mx : Int) (lz : Bool) : List Nd := [{ op := 2, c := 97 }, { op := 7, mn := n, mx := mx, lz := lz, kids := [0] }]
def tmT (n : Nat) (mx : Int) (lz : Bool) : PT := .many n (if mx < 0 then none else some mx.toNat) lz (.leaf { op := 1, c := 97 })
theorem tm_seen {s : List UInt8} {n : Nat} {mx : Int} {lz : Bool} (hn : n ≤ 60) (hmx : mx < 0 ∨ ((n : Int) ≤ mx ∧ mx ≤ 60)) (h : see (parF ⟨s.toArray⟩ ⟨#[]⟩) = .ok (1, 0, 0, tmN n mx lz)) :
    resF s = some ⟨1, 0, 0, tmN n mx lz, tmT n mx lz⟩ ∧ okR ⟨1, 0, 0, tmN n mx lz, tmT n mx lz⟩ = true := by
  have ht : toT ((tmN n mx lz).map Nd.q) 100 1 = some (tmT n mx lz) := by
    have h0 : toT ((tmN n mx lz).map Nd.q) 99 0 = some (.leaf { op := 1, c := 97 }) := rfl
    rw [show (100 : Nat) = 99 + 1 from rfl, toT]
    have hb : hasB ((tmN n mx lz).map Nd.q) 1 = true := rfl
    have hd : nodeAt ((tmN n mx lz).map Nd.q) 1 = ⟨7, 0, zeroS, n, mx, lz, 0, [0]⟩ := rfl
    rw [if_pos hb, hd]
    simp only
    rw [if_neg (by decide), if_neg (by decide), if_neg (by decide), if_pos trivial, if_pos ⟨rfl, by omega, by omega, by omega, by omega⟩]
    simp only [List.headD_cons, h0, Option.map_some, tmT, Int.toNat_natCast]
  have hs : soundF ((tmN n mx lz).map Nd.q) 1 0 = true := by
    have hb1 : hasB ((tmN n mx lz).map Nd.q) 1 = true := rfl
    have hb0 : hasB ((tmN n mx lz).map Nd.q) 0 = true := rfl
    have hd : nodeAt ((tmN n mx lz).map Nd.q) 1 = ⟨7, 0, zeroS, n, mx, lz, 0, [0]⟩ := rfl
    have hd0 : nodeAt ((tmN n mx lz).map Nd.q) 0 = ⟨2, 97, zeroS, 0, 0, false, 0, []⟩ := rfl
    have htm : timesB ⟨7, 0, zeroS, n, mx, lz, 0, [0]⟩ = true := decide_eq_true (by simp only; omega)
    have hl : ((tmN n mx lz).map Nd.q).length = 2 := rfl
    have hf1 : fitB ((tmN n mx lz).map Nd.q) 0 ⟨7, 0, zeroS, n, mx, lz, 0, [0]⟩ = true := by
      unfold fitB
      simp only [leafB, htm, mayB, List.headD_cons, hb0, hd0]
      rfl
    have hf0 : fitB ((tmN n mx lz).map Nd.q) 0 ⟨2, 97, zeroS, 0, 0, false, 0, []⟩ = true := rfl
    unfold soundF
    rw [hl]
    simp [treeF, hb1, hb0, hd, hd0, hf1, hf0]
  have ht' : toT ((tmN n mx lz).map Nd.q) 100 ((1 : Nat) : Int) = some (tmT n mx lz) := ht
  refine ⟨by unfold resF; rw [h]; simp only [ht', Option.map_some], ?_⟩
  have hs' : soundF ((tmN n mx lz).map Nd.q) ((1 : Nat) : Int) ((0 : Nat) : Int) = true := hs
  simp only [okR, hs', Bool.true_and]
  simp [PT.size, tmN, tmT]
section
variable {w w1 : World}
theorem qdigits_any : ∀ (f n : Nat) (w : World), n < 10 ^ f → 1 ≤ f → f ≤ 4 → Calls Tryz.prog 14 #[.int .i64 n] w fun e w' => e = .returned (str (dR f n)) ∧ Kp w w' ∧ (dR f n).length ≤ 2 ^ f := by
  intro f
  induction f with
  | zero => intro n w h h1 _; omega
  | succ f ih =>
    intro n w h h1 hf
    unfold dR
    by_cases h10 : n < 10
    · have d10 : decide ((n : Int) < 10) = true := decide_eq_true (by omega)
      rw [if_pos h10]
      obtain ⟨cb, hcb⟩ : ∃ c, (48 + n).toUInt8 = c := ⟨_, rfl⟩
      have ecb : cb.toNat = 48 + n := by rw [← hcb]; simp [Nat.toUInt8]; omega
      rw [hcb]
      have HL1 : Hid (1 ≤ 2 ^ (f + 1)) := Nat.one_le_two_pow
      have hcv : (convert 22 9 (.slice (some ⟨w.heap.size, 0, none⟩) 1 1)).run Tryz.prog (w.alloc (.cells #[.int .u8 (48 + (n : Int))] 5)) = .ok (str [cb]) (w.alloc (.cells #[.int .u8 (48 + (n : Int))] 5)) :=
        run_convert_bytes_back (P := Tryz.prog) _ 22 9 5 ⟨w.heap.size, 0, none⟩ 1 [cb] Tryz.underlying22 Tryz.underlying5 Tryz.underlying9 (fun j hj => by
          have hj0 : j = 0 := by simpa using hj
          subst hj0
          rw [Addr.add_lit, cell_at (alloc_new w _)]
          show some (Value.int .u8 (48 + (n : Int))) = some (Value.int .u8 (cb.toNat : Int))
          rw [ecb]; rfl)
      clear hcb ecb
      go_enter Tryz.func14, Tryz.ntmps14
      go_wp2_with fail
      go_ret
      exact ⟨rfl, kp_alloc _ _, HL1.out⟩
    · have d10 : decide ((n : Int) < 10) = false := decide_eq_false (by omega)
      rw [if_neg h10]
      have hf1 : 1 ≤ f := by
        rcases Nat.eq_zero_or_pos f with z | z
        · subst z; simp at h; omega
        · exact z
      have hp : 10 ≤ 10 ^ f := by
        have := Nat.pow_le_pow_right (n := 10) (by omega) hf1
        simpa using this
      rw [Nat.pow_succ] at h
      obtain ⟨p, hp'⟩ : ∃ p, n / 10 = p := ⟨_, rfl⟩
      obtain ⟨q, hq'⟩ : ∃ q, n % 10 = q := ⟨_, rfl⟩
      have H1 : Hid _ := fun x => ih p x (by omega) hf1 (by omega)
      have H2 : Hid _ := fun x => ih q x (by omega) hf1 (by omega)
      rw [hp', hq']
      have hn4 : n < 10 ^ f * 10 := h
      have hp4 : 10 ^ f ≤ 10 ^ 3 := Nat.pow_le_pow_right (by omega) (by omega)
      have hw1 : wrap64 ((n : Int) / 10) = (p : Int) := by unfold wrap64; omega
      have hm1 : (n : Int) % 10 = (q : Int) := by omega
      have h2p : 2 ^ f ≤ 2 ^ 3 := Nat.pow_le_pow_right (by omega) (by omega)
      have H2p : Hid (2 ^ f ≤ 8) := h2p
      clear ih h hf hn4 hp4 hp h2p hp' hq'
      go_enter Tryz.func14, Tryz.ntmps14
      go_wp2_with fail
      refine Calls.mono (H1.out _) ?_
      rintro e w1 ⟨rfl, q1, l1⟩
      have HQ1 : Hid (Kp w w1 ∧ (dR f p).length ≤ 2 ^ f) := ⟨q1, l1⟩
      clear q1 l1
      go_wp2_with fail
      refine Calls.mono (H2.out _) ?_
      rintro e w2 ⟨rfl, q2, l2⟩
      have HQ2 : Hid (Kp w w2 ∧ (dR f q).length ≤ 2 ^ f) := ⟨kp_trans HQ1.out.1 q2, l2⟩
      clear q2 l2
      obtain ⟨z, hz⟩ : ∃ z, dR f p ++ dR f q = z := ⟨_, rfl⟩
      have hA := cat_run hz (by rw [← hz, List.length_append]; have := HQ1.out.2; have := HQ2.out.2; have := H2p.out; omega)
      have HZ : Hid (dR f p ++ dR f q = z) := hz
      clear hz
      go_wp2_with fail
      go_ret
      refine ⟨by rw [HZ.out]; rfl, HQ2.out.1, ?_⟩
      rw [List.length_append, Nat.pow_succ]
      have := HQ1.out.2; have := HQ2.out.2; omega
theorem qdG_any {n : Nat} (hn : n < 1200) (w : World) : Calls Tryz.prog 14 #[.int .i64 n] w fun e w' => e = .returned (str (dG n)) ∧ Kp w w' :=
  (qdigits_any 4 n w (by omega) (by omega) (by omega)).mono fun e w' q => ⟨q.1, q.2.1⟩
set_option maxHeartbeats 4000000 in
set_option maxRecDepth 100000 in
theorem times_false (n : Nat) (hn : n < 256) (m : Nat) (hm : m < 256) (g : Gm w) : Calls Tryz.prog 8 #[.int .u8 n, .int .u8 m, .bool false] w fun e w' => e = .returned (.bool true) ∧ Kp w w' := by
  obtain ⟨lo, hlo⟩ : ∃ lo, n % 61 = lo := ⟨_, rfl⟩
  have e1 : (n : Int) % 61 = (lo : Int) := by omega
  have hl60 : lo ≤ 60 := by omega
  obtain ⟨D, hD⟩ : ∃ D, 61 - lo = D := ⟨_, rfl⟩
  have e2 : 61 - (lo : Int) = (D : Int) := by omega
  have hD1 : 1 ≤ D := by omega
  obtain ⟨rr, hrr⟩ : ∃ rr, m % D = rr := ⟨_, rfl⟩
  have e3 : (m : Int) % (D : Int) = (rr : Int) := by rw [← hrr]; rfl
  have hrD : rr < D := by rw [← hrr]; exact Nat.mod_lt _ (by omega)
  obtain ⟨hi, hhi⟩ : ∃ hi, lo + rr = hi := ⟨_, rfl⟩
  have e4 : (lo : Int) + (rr : Int) = (hi : Int) := by omega
  have hh60 : lo ≤ hi ∧ hi ≤ 60 := by omega
  have HG : Hid (Gm w) := g
  obtain ⟨c1, hc1⟩ : ∃ c, [97, 92, 123] ++ dG lo = c := ⟨_, rfl⟩
  obtain ⟨c2, hc2⟩ : ∃ c, c1 ++ [44] = c := ⟨_, rfl⟩
  obtain ⟨c3, hc3⟩ : ∃ c, c2 ++ dG hi = c := ⟨_, rfl⟩
  obtain ⟨c4, hc4⟩ : ∃ c, c3 ++ [125] = c := ⟨_, rfl⟩
  obtain ⟨c5, hc5⟩ : ∃ c, c1 ++ [44, 125] = c := ⟨_, rfl⟩
  have l1 := dG_len (show lo < 1200 by omega)
  have l2 := dG_len (show hi < 1200 by omega)
  have m1 : c1.length ≤ 10 := by rw [← hc1, List.length_append]; simp; omega
  have m2 : c2.length ≤ 11 := by rw [← hc2, List.length_append]; simp; omega
  have m3 : c3.length ≤ 20 := by rw [← hc3, List.length_append]; omega
  have hA0 := cat_run (show ([97, 92, 123] : List UInt8) ++ [45] = [97, 92, 123, 45] from rfl) (by simp)
  have hA1 := cat_run hc1 (by omega)
  have hA2 := cat_run hc2 (by omega)
  have hA3 := cat_run hc3 (by omega)
  have hA4 := cat_run hc4 (by rw [← hc4, List.length_append]; simp; omega)
  have hA5 := cat_run hc5 (by rw [← hc5, List.length_append]; simp; omega)
  have x4 : c4 = [97, 92, 123] ++ x1 false lo hi := by rw [← hc4, ← hc3, ← hc2, ← hc1]; simp [x1, lzL]
  have x5 : c5 = [97, 92, 123] ++ x3 false lo := by rw [← hc5, ← hc1]; simp [x3, lzL]
  have s1 : see (parF ⟨c4.toArray⟩ ⟨#[]⟩) = .ok (1, 0, 0, tmN lo hi false) := by
    rw [x4]
    have b1 := bnd1 false (show lo < 1200 by omega) (show hi < 1200 by omega)
    rw [if_pos (by omega)] at b1
    exact brace_ok _ (by simp [x1, lzL]; omega) b1
  have s2 : see (parF ⟨c5.toArray⟩ ⟨#[]⟩) = .ok (1, 0, 0, tmN lo (-1) false) := by
    rw [x5]
    exact brace_ok _ (by simp [x3, lzL]; omega) (bnd3 false hl60)
  have r1 := tm_seen hl60 (.inr (by omega)) s1
  have r2 := tm_seen hl60 (.inl (by omega)) s2
  obtain ⟨X1, p1⟩ := progF_fits.2 (show (tmT lo hi false).len + 1 ≤ 2000 by simp only [tmT, PT.len, if_neg (show ¬ (hi : Int) < 0 by omega), Int.toNat_natCast]; omega)
  obtain ⟨X2, p2⟩ := progF_fits.2 (show (tmT lo (-1) false).len + 1 ≤ 2000 by simp only [tmT, PT.len, if_pos (show (-1 : Int) < 0 by omega)]; omega)
  have q1 := progF_len p1
  have q2 := progF_len p2
  obtain ⟨df, hdf⟩ : ∃ df, hi - lo = df := ⟨_, rfl⟩
  have f1 : (hi : Int) - (lo : Int) = (df : Int) := by omega
  obtain ⟨N1, hN1⟩ : ∃ N1, X1.1.length = N1 := ⟨_, rfl⟩
  obtain ⟨N2, hN2⟩ : ∃ N2, X2.1.length = N2 := ⟨_, rfl⟩
  have f2 : (lo : Int) + 4 * (df : Int) + 1 = (N1 : Int) := by
    have := q1.1
    simp only [tmT, PT.len, if_neg (show ¬ (hi : Int) < 0 by omega), Int.toNat_natCast] at this
    omega
  have f3 : (lo : Int) + 6 = (N2 : Int) := by
    have := q2.1
    simp only [tmT, PT.len, if_pos (show (-1 : Int) < 0 by omega)] at this
    omega
  have f4 : X1.2 = df := by
    have := q1.2
    simp only [tmT, PT.rnd, if_neg (show ¬ (hi : Int) < 0 by omega), Int.toNat_natCast] at this
    omega
  have f5 : X2.2 = 1 := by
    have := q2.2
    simp only [tmT, PT.rnd, if_pos (show (-1 : Int) < 0 by omega)] at this
    omega
  have HR : Hid (resF c4 = some ⟨1, 0, 0, tmN lo hi false, tmT lo hi false⟩ ∧ okR ⟨1, 0, 0, tmN lo hi false, tmT lo hi false⟩ = true ∧ progF (tmT lo hi false) = some X1 ∧ X1.1.length = N1 ∧ X1.2 = df) := ⟨r1.1, r1.2, p1, hN1, f4⟩
  have HR2 : Hid (resF c5 = some ⟨1, 0, 0, tmN lo (-1) false, tmT lo (-1) false⟩ ∧ okR ⟨1, 0, 0, tmN lo (-1) false, tmT lo (-1) false⟩ = true ∧ progF (tmT lo (-1) false) = some X2 ∧ X2.1.length = N2 ∧ X2.2 = 1) := ⟨r2.1, r2.2, p2, hN2, f5⟩
  have HD : Hid (∀ x, Calls Tryz.prog 14 #[.int .i64 lo] x fun e w' => e = .returned (str (dG lo)) ∧ Kp x w') := fun x => qdG_any (by omega) x
  have HE : Hid (∀ x, Calls Tryz.prog 14 #[.int .i64 hi] x fun e w' => e = .returned (str (dG hi)) ∧ Kp x w') := fun x => qdG_any (by omega) x
  have hN1b : N1 ≤ 2000 := by omega
  clear g hlo hD hrr hhi hc1 hc2 hc3 hc4 hc5 l1 l2 m1 m2 m3 x4 x5 s1 s2 r1 r2 p1 p2 q1 q2 hN1 hN2 f4 f5 hdf
  go_enter Tryz.func8, Tryz.ntmps8
  go_wp2_with fail
  refine Calls.mono (HD.out _) ?_
  rintro e w1 ⟨rfl, q⟩
  have H1 : Hid (Kp w w1) := q
  clear q
  go_wp2_with fail
  refine Calls.mono (HE.out _) ?_
  rintro e w2 ⟨rfl, q⟩
  have H2 : Hid (Kp w w2) := kp_trans H1.out q
  clear q
  go_wp2_with fail
  refine Calls.mono (seen_parse HR.out.1 (HG.out.kp H2.out)) ?_
  rintro e w3 ⟨va, vc, rfl, q1, q2⟩
  have H3 : Hid (Kp w w3 ∧ Pt w3 (.slice va 2 vc) ((tmN lo hi false).map Nd.q)) := ⟨kp_trans H2.out q2, q1⟩
  simp only [show (tmN lo hi false).length = 2 from rfl]
  clear q1 q2
  go_wp2_with fail
  refine Calls.mono (HD.out _) ?_
  rintro e w4 ⟨rfl, q⟩
  have H4 : Hid (Kp w w4 ∧ Kp w3 w4 ∧ PBox w3.heap.size (.slice va 2 vc) 1 0 0 w4) := ⟨kp_trans (kp_trans H3.out.1 (kp_alloc _ _)) q, kp_trans (kp_alloc _ _) q, (show PBox _ _ _ _ _ (w3.alloc _) from alloc_new w3 _).kp q⟩
  clear q
  go_wp2_with fail
  refine Calls.mono (seen_parse HR2.out.1 (HG.out.kp H4.out.1)) ?_
  rintro e w5 ⟨va2, vc2, rfl, q1, q2⟩
  have H5 : Hid (Kp w w5 ∧ Pt w5 (.slice va 2 vc) ((tmN lo hi false).map Nd.q) ∧ Pt w5 (.slice va2 2 vc2) ((tmN lo (-1) false).map Nd.q) ∧ PBox w3.heap.size (.slice va 2 vc) 1 0 0 w5) := ⟨kp_trans H4.out.1 q2, H3.out.2.kp (kp_trans H4.out.2.1 q2), q1, H4.out.2.2.kp q2⟩
  simp only [show (tmN lo (-1) false).length = 2 from rfl]
  clear q1 q2
  obtain ⟨b3, hb3⟩ : ∃ b3, w3.heap.size = b3 := ⟨_, rfl⟩
  rw [hb3] at H5 ⊢
  clear hb3 H4
  have y0 := fun ob => (H5.out.2.2.2.kp (kp_alloc w5 ob)).cells.1
  have y1 := fun ob => (H5.out.2.2.2.kp (kp_alloc w5 ob)).cells.2.1
  have y2 := fun ob => (H5.out.2.2.2.kp (kp_alloc w5 ob)).cells.2.2.1
  have y3 := fun ob => (H5.out.2.2.2.kp (kp_alloc w5 ob)).cells.2.2.2
  go_wp2_with fail
  have HC1 : Hid _ := seen_compile HR.out.1 HR.out.2.1 (H5.out.2.1.kp (kp_alloc w5 (.cells #[.slice va2 2 vc2, .int .i64 1, .int .i64 0, .int .u8 0] 25))) false
  refine Calls.mono HC1.out ?_
  simp only
  rw [HR.out.2.2.1]
  rintro e w6 ⟨ca, cap, rfl, _, q2⟩
  rw [HR.out.2.2.2.1, HR.out.2.2.2.2]
  have H6 : Hid (Kp w w6 ∧ Pt w6 (.slice va2 2 vc2) ((tmN lo (-1) false).map Nd.q) ∧ PBox w5.heap.size (.slice va2 2 vc2) 1 0 0 w6) := ⟨kp_trans (kp_trans H5.out.1 (kp_alloc _ _)) q2, H5.out.2.2.1.kp (kp_trans (kp_alloc _ _) q2), (show PBox _ _ _ _ _ (w5.alloc _) from alloc_new w5 _).kp q2⟩
  clear q2 HC1 y0 y1 y2 y3
  obtain ⟨b5, hb5⟩ : ∃ b5, w5.heap.size = b5 := ⟨_, rfl⟩
  rw [hb5] at H6 ⊢
  clear hb5
  have y0 := fun ob => (H6.out.2.2.kp (kp_alloc w6 ob)).cells.1
  have y1 := fun ob => (H6.out.2.2.kp (kp_alloc w6 ob)).cells.2.1
  have y2 := fun ob => (H6.out.2.2.kp (kp_alloc w6 ob)).cells.2.2.1
  have y3 := fun ob => (H6.out.2.2.kp (kp_alloc w6 ob)).cells.2.2.2
  obtain ⟨f, hf⟩ : ∃ f, foldsB 0 false = f := ⟨_, rfl⟩
  rw [hf]
  go_wp2_with fail
  have HC2 : Hid _ := seen_compile HR2.out.1 HR2.out.2.1 (H6.out.2.1.kp (kp_alloc w6 (.cells #[.slice ca N1 cap, .int .i64 df, .bool f] 32))) false
  refine Calls.mono HC2.out ?_
  simp only
  rw [HR2.out.2.2.1]
  rintro e w7 ⟨ca2, cap2, rfl, _, q2⟩
  rw [HR2.out.2.2.2.1, HR2.out.2.2.2.2]
  have H7 : Hid (Kp w w7 ∧ PgBox w6.heap.size (.slice ca N1 cap) (.int .i64 df) (.bool f) w7) := ⟨kp_trans (kp_trans H6.out.1 (kp_alloc _ _)) q2, (show PgBox _ _ _ _ (w6.alloc _) from alloc_new w6 _).fr (S := fun _ => False) (Fr.of_below q2) (fun z => z)⟩
  clear q2 HC2 y0 y1 y2 y3
  rw [hf]
  go_wp2_with fail
  have H8 : Hid (Kp w (w7.alloc (.cells #[.slice ca2 N2 cap2, .int .i64 1, .bool f] 32)) ∧ PgBox w6.heap.size (.slice ca N1 cap) (.int .i64 df) (.bool f) (w7.alloc (.cells #[.slice ca2 N2 cap2, .int .i64 1, .bool f] 32)) ∧ PgBox w7.heap.size (.slice ca2 N2 cap2) (.int .i64 1) (.bool f) (w7.alloc (.cells #[.slice ca2 N2 cap2, .int .i64 1, .bool f] 32))) := ⟨kp_trans H7.out.1 (kp_alloc _ _), H7.out.2.fr (S := fun _ => False) (Fr.of_below (kp_alloc _ _)) (fun z => z), alloc_new w7 _⟩
  refine Calls.mono (qknown_any (HG.out.kp H8.out.1)) ?_
  rintro e w8 ⟨rfl, q⟩
  obtain ⟨⟨g0, g1, g2⟩, _⟩ := (H8.out.2.1.fr (S := fun _ => False) (Fr.of_below q) (fun z => z)).cells
  obtain ⟨⟨j0, j1, j2⟩, _⟩ := (H8.out.2.2.fr (S := fun _ => False) (Fr.of_below q) (fun z => z)).cells
  have H9 : Hid (Kp w w8) := kp_trans H8.out.1 q
  clear q H7 H8
  go_wp2_with fail
  go_ret
  exact ⟨by simp, H9.out⟩
set_option maxHeartbeats 4000000 in
set_option maxRecDepth 100000 in
theorem times_true (n : Nat) (hn : n < 256) (m : Nat) (hm : m < 256) (g : Gm w) : Calls Tryz.prog 8 #[.int .u8 n, .int .u8 m, .bool true] w fun e w' => e = .returned (.bool true) ∧ Kp w w' := by
  obtain ⟨lo, hlo⟩ : ∃ lo, n % 61 = lo := ⟨_, rfl⟩
  have e1 : (n : Int) % 61 = (lo : Int) := by omega
  have hl60 : lo ≤ 60 := by omega
  obtain ⟨D, hD⟩ : ∃ D, 61 - lo = D := ⟨_, rfl⟩
  have e2 : 61 - (lo : Int) = (D : Int) := by omega
  have hD1 : 1 ≤ D := by omega
  obtain ⟨rr, hrr⟩ : ∃ rr, m % D = rr := ⟨_, rfl⟩
  have e3 : (m : Int) % (D : Int) = (rr : Int) := by rw [← hrr]; rfl
  have hrD : rr < D := by rw [← hrr]; exact Nat.mod_lt _ (by omega)
  obtain ⟨hi, hhi⟩ : ∃ hi, lo + rr = hi := ⟨_, rfl⟩
  have e4 : (lo : Int) + (rr : Int) = (hi : Int) := by omega
  have hh60 : lo ≤ hi ∧ hi ≤ 60 := by omega
  have HG : Hid (Gm w) := g
  obtain ⟨c1, hc1⟩ : ∃ c, [97, 92, 123, 45] ++ dG lo = c := ⟨_, rfl⟩
  obtain ⟨c2, hc2⟩ : ∃ c, c1 ++ [44] = c := ⟨_, rfl⟩
  obtain ⟨c3, hc3⟩ : ∃ c, c2 ++ dG hi = c := ⟨_, rfl⟩
  obtain ⟨c4, hc4⟩ : ∃ c, c3 ++ [125] = c := ⟨_, rfl⟩
  obtain ⟨c5, hc5⟩ : ∃ c, c1 ++ [44, 125] = c := ⟨_, rfl⟩
  have l1 := dG_len (show lo < 1200 by omega)
  have l2 := dG_len (show hi < 1200 by omega)
  have m1 : c1.length ≤ 10 := by rw [← hc1, List.length_append]; simp; omega
  have m2 : c2.length ≤ 11 := by rw [← hc2, List.length_append]; simp; omega
  have m3 : c3.length ≤ 20 := by rw [← hc3, List.length_append]; omega
  have hA0 := cat_run (show ([97, 92, 123] : List UInt8) ++ [45] = [97, 92, 123, 45] from rfl) (by simp)
  have hA1 := cat_run hc1 (by omega)
  have hA2 := cat_run hc2 (by omega)
  have hA3 := cat_run hc3 (by omega)
  have hA4 := cat_run hc4 (by rw [← hc4, List.length_append]; simp; omega)
  have hA5 := cat_run hc5 (by rw [← hc5, List.length_append]; simp; omega)
  have x4 : c4 = [97, 92, 123] ++ x1 true lo hi := by rw [← hc4, ← hc3, ← hc2, ← hc1]; simp [x1, lzL]
  have x5 : c5 = [97, 92, 123] ++ x3 true lo := by rw [← hc5, ← hc1]; simp [x3, lzL]
  have s1 : see (parF ⟨c4.toArray⟩ ⟨#[]⟩) = .ok (1, 0, 0, tmN lo hi true) := by
    rw [x4]
    have b1 := bnd1 true (show lo < 1200 by omega) (show hi < 1200 by omega)
    rw [if_pos (by omega)] at b1
    exact brace_ok _ (by simp [x1, lzL]; omega) b1
  have s2 : see (parF ⟨c5.toArray⟩ ⟨#[]⟩) = .ok (1, 0, 0, tmN lo (-1) true) := by
    rw [x5]
    exact brace_ok _ (by simp [x3, lzL]; omega) (bnd3 true hl60)
  have r1 := tm_seen hl60 (.inr (by omega)) s1
  have r2 := tm_seen hl60 (.inl (by omega)) s2
  obtain ⟨X1, p1⟩ := progF_fits.2 (show (tmT lo hi true).len + 1 ≤ 2000 by simp only [tmT, PT.len, if_neg (show ¬ (hi : Int) < 0 by omega), Int.toNat_natCast]; omega)
  obtain ⟨X2, p2⟩ := progF_fits.2 (show (tmT lo (-1) true).len + 1 ≤ 2000 by simp only [tmT, PT.len, if_pos (show (-1 : Int) < 0 by omega)]; omega)
  have q1 := progF_len p1
  have q2 := progF_len p2
  obtain ⟨df, hdf⟩ : ∃ df, hi - lo = df := ⟨_, rfl⟩
  have f1 : (hi : Int) - (lo : Int) = (df : Int) := by omega
  obtain ⟨N1, hN1⟩ : ∃ N1, X1.1.length = N1 := ⟨_, rfl⟩
  obtain ⟨N2, hN2⟩ : ∃ N2, X2.1.length = N2 := ⟨_, rfl⟩
  have f2 : (lo : Int) + 4 * (df : Int) + 1 = (N1 : Int) := by
    have := q1.1
    simp only [tmT, PT.len, if_neg (show ¬ (hi : Int) < 0 by omega), Int.toNat_natCast] at this
    omega
  have f3 : (lo : Int) + 6 = (N2 : Int) := by
    have := q2.1
    simp only [tmT, PT.len, if_pos (show (-1 : Int) < 0 by omega)] at this
    omega
  have f4 : X1.2 = df := by
    have := q1.2
    simp only [tmT, PT.rnd, if_neg (show ¬ (hi : Int) < 0 by omega), Int.toNat_natCast] at this
    omega
  have f5 : X2.2 = 1 := by
    have := q2.2
    simp only [tmT, PT.rnd, if_pos (show (-1 : Int) < 0 by omega)] at this
    omega
  have HR : Hid (resF c4 = some ⟨1, 0, 0, tmN lo hi true, tmT lo hi true⟩ ∧ okR ⟨1, 0, 0, tmN lo hi true, tmT lo hi true⟩ = true ∧ progF (tmT lo hi true) = some X1 ∧ X1.1.length = N1 ∧ X1.2 = df) := ⟨r1.1, r1.2, p1, hN1, f4⟩
  have HR2 : Hid (resF c5 = some ⟨1, 0, 0, tmN lo (-1) true, tmT lo (-1) true⟩ ∧ okR ⟨1, 0, 0, tmN lo (-1) true, tmT lo (-1) true⟩ = true ∧ progF (tmT lo (-1) true) = some X2 ∧ X2.1.length = N2 ∧ X2.2 = 1) := ⟨r2.1, r2.2, p2, hN2, f5⟩
  have HD : Hid (∀ x, Calls Tryz.prog 14 #[.int .i64 lo] x fun e w' => e = .returned (str (dG lo)) ∧ Kp x w') := fun x => qdG_any (by omega) x
  have HE : Hid (∀ x, Calls Tryz.prog 14 #[.int .i64 hi] x fun e w' => e = .returned (str (dG hi)) ∧ Kp x w') := fun x => qdG_any (by omega) x
  have hN1b : N1 ≤ 2000 := by omega
  clear g hlo hD hrr hhi hc1 hc2 hc3 hc4 hc5 l1 l2 m1 m2 m3 x4 x5 s1 s2 r1 r2 p1 p2 q1 q2 hN1 hN2 f4 f5 hdf
  go_enter Tryz.func8, Tryz.ntmps8
  go_wp2_with fail
  refine Calls.mono (HD.out _) ?_
  rintro e w1 ⟨rfl, q⟩
  have H1 : Hid (Kp w w1) := q
  clear q
  go_wp2_with fail
  refine Calls.mono (HE.out _) ?_
  rintro e w2 ⟨rfl, q⟩
  have H2 : Hid (Kp w w2) := kp_trans H1.out q
  clear q
  go_wp2_with fail
  refine Calls.mono (seen_parse HR.out.1 (HG.out.kp H2.out)) ?_
  rintro e w3 ⟨va, vc, rfl, q1, q2⟩
  have H3 : Hid (Kp w w3 ∧ Pt w3 (.slice va 2 vc) ((tmN lo hi true).map Nd.q)) := ⟨kp_trans H2.out q2, q1⟩
  simp only [show (tmN lo hi true).length = 2 from rfl]
  clear q1 q2
  go_wp2_with fail
  refine Calls.mono (HD.out _) ?_
  rintro e w4 ⟨rfl, q⟩
  have H4 : Hid (Kp w w4 ∧ Kp w3 w4 ∧ PBox w3.heap.size (.slice va 2 vc) 1 0 0 w4) := ⟨kp_trans (kp_trans H3.out.1 (kp_alloc _ _)) q, kp_trans (kp_alloc _ _) q, (show PBox _ _ _ _ _ (w3.alloc _) from alloc_new w3 _).kp q⟩
  clear q
  go_wp2_with fail
  refine Calls.mono (seen_parse HR2.out.1 (HG.out.kp H4.out.1)) ?_
  rintro e w5 ⟨va2, vc2, rfl, q1, q2⟩
  have H5 : Hid (Kp w w5 ∧ Pt w5 (.slice va 2 vc) ((tmN lo hi true).map Nd.q) ∧ Pt w5 (.slice va2 2 vc2) ((tmN lo (-1) true).map Nd.q) ∧ PBox w3.heap.size (.slice va 2 vc) 1 0 0 w5) := ⟨kp_trans H4.out.1 q2, H3.out.2.kp (kp_trans H4.out.2.1 q2), q1, H4.out.2.2.kp q2⟩
  simp only [show (tmN lo (-1) true).length = 2 from rfl]
  clear q1 q2
  obtain ⟨b3, hb3⟩ : ∃ b3, w3.heap.size = b3 := ⟨_, rfl⟩
  rw [hb3] at H5 ⊢
  clear hb3 H4
  have y0 := fun ob => (H5.out.2.2.2.kp (kp_alloc w5 ob)).cells.1
  have y1 := fun ob => (H5.out.2.2.2.kp (kp_alloc w5 ob)).cells.2.1
  have y2 := fun ob => (H5.out.2.2.2.kp (kp_alloc w5 ob)).cells.2.2.1
  have y3 := fun ob => (H5.out.2.2.2.kp (kp_alloc w5 ob)).cells.2.2.2
  go_wp2_with fail
  have HC1 : Hid _ := seen_compile HR.out.1 HR.out.2.1 (H5.out.2.1.kp (kp_alloc w5 (.cells #[.slice va2 2 vc2, .int .i64 1, .int .i64 0, .int .u8 0] 25))) false
  refine Calls.mono HC1.out ?_
  simp only
  rw [HR.out.2.2.1]
  rintro e w6 ⟨ca, cap, rfl, _, q2⟩
  rw [HR.out.2.2.2.1, HR.out.2.2.2.2]
  have H6 : Hid (Kp w w6 ∧ Pt w6 (.slice va2 2 vc2) ((tmN lo (-1) true).map Nd.q) ∧ PBox w5.heap.size (.slice va2 2 vc2) 1 0 0 w6) := ⟨kp_trans (kp_trans H5.out.1 (kp_alloc _ _)) q2, H5.out.2.2.1.kp (kp_trans (kp_alloc _ _) q2), (show PBox _ _ _ _ _ (w5.alloc _) from alloc_new w5 _).kp q2⟩
  clear q2 HC1 y0 y1 y2 y3
  obtain ⟨b5, hb5⟩ : ∃ b5, w5.heap.size = b5 := ⟨_, rfl⟩
  rw [hb5] at H6 ⊢
  clear hb5
  have y0 := fun ob => (H6.out.2.2.kp (kp_alloc w6 ob)).cells.1
  have y1 := fun ob => (H6.out.2.2.kp (kp_alloc w6 ob)).cells.2.1
  have y2 := fun ob => (H6.out.2.2.kp (kp_alloc w6 ob)).cells.2.2.1
  have y3 := fun ob => (H6.out.2.2.kp (kp_alloc w6 ob)).cells.2.2.2
  obtain ⟨f, hf⟩ : ∃ f, foldsB 0 false = f := ⟨_, rfl⟩
  rw [hf]
  go_wp2_with fail
  have HC2 : Hid _ := seen_compile HR2.out.1 HR2.out.2.1 (H6.out.2.1.kp (kp_alloc w6 (.cells #[.slice ca N1 cap, .int .i64 df, .bool f] 32))) false
  refine Calls.mono HC2.out ?_
  simp only
  rw [HR2.out.2.2.1]
  rintro e w7 ⟨ca2, cap2, rfl, _, q2⟩
  rw [HR2.out.2.2.2.1, HR2.out.2.2.2.2]
  have H7 : Hid (Kp w w7 ∧ PgBox w6.heap.size (.slice ca N1 cap) (.int .i64 df) (.bool f) w7) := ⟨kp_trans (kp_trans H6.out.1 (kp_alloc _ _)) q2, (show PgBox _ _ _ _ (w6.alloc _) from alloc_new w6 _).fr (S := fun _ => False) (Fr.of_below q2) (fun z => z)⟩
  clear q2 HC2 y0 y1 y2 y3
  rw [hf]
  go_wp2_with fail
  have H8 : Hid (Kp w (w7.alloc (.cells #[.slice ca2 N2 cap2, .int .i64 1, .bool f] 32)) ∧ PgBox w6.heap.size (.slice ca N1 cap) (.int .i64 df) (.bool f) (w7.alloc (.cells #[.slice ca2 N2 cap2, .int .i64 1, .bool f] 32)) ∧ PgBox w7.heap.size (.slice ca2 N2 cap2) (.int .i64 1) (.bool f) (w7.alloc (.cells #[.slice ca2 N2 cap2, .int .i64 1, .bool f] 32))) := ⟨kp_trans H7.out.1 (kp_alloc _ _), H7.out.2.fr (S := fun _ => False) (Fr.of_below (kp_alloc _ _)) (fun z => z), alloc_new w7 _⟩
  refine Calls.mono (qknown_any (HG.out.kp H8.out.1)) ?_
  rintro e w8 ⟨rfl, q⟩
  obtain ⟨⟨g0, g1, g2⟩, _⟩ := (H8.out.2.1.fr (S := fun _ => False) (Fr.of_below q) (fun z => z)).cells
  obtain ⟨⟨j0, j1, j2⟩, _⟩ := (H8.out.2.2.fr (S := fun _ => False) (Fr.of_below q) (fun z => z)).cells
  have H9 : Hid (Kp w w8) := kp_trans H8.out.1 q
  clear q H7 H8
  go_wp2_with fail
  go_ret
  exact ⟨by simp, H9.out⟩
theorem times_law (n : Nat) (hn : n < 256) (m : Nat) (hm : m < 256) (b : Bool) (g : Gm w) : Calls Tryz.prog 8 #[.int .u8 n, .int .u8 m, .bool b] w fun e w' => e = .returned (.bool true) ∧ Kp w w' := by
  cases b with
  | false => exact times_false n hn m hm g
  | true => exact times_true n hn m hm g
end
end Go.Proofs.YtlgemficalcghaaGreat
/- ProgLong: the texts, read. -/
namespace Go.Proofs.YtlgemficalcghaaGreat
open Go.ChangeShapes Go.WideShapes Go.ChangeAt Go.RowKit
set_option linter.unusedVariables false
set_option linter.unusedSimpArgs false
def sL (low : Nat) : Nat → List UInt8
  | 0 => [97]
  | i + 1 => [92, 40] ++ sL low i ++ [92, 41, 92, 123] ++ dG low ++ [125]
def mL (low : Nat) : Nat → Nat
  | 0 => 1
  | i + 1 => min (low * (mL low i + 2)) 1048576
def chL (low k : Nat) : Bool :=
  match resF (sL low k) with
  | some r => okR r && r.cs == 0 && (if 2000 < mL low k + 1 then decide (2000 < r.t.len + 1) else r.t.len == mL low k)
  | none => false
theorem chL_0_0 : ∀ low : Fin 60, chL (low.val + 1) 0 = true := by decide +kernel
theorem chL_1_0 : ∀ low : Fin 60, chL (low.val + 1) 1 = true := by decide +kernel
theorem chL_2_0 : ∀ low : Fin 60, chL (low.val + 1) 2 = true := by decide +kernel
theorem chL_3_0 : ∀ low : Fin 60, chL (low.val + 1) 3 = true := by decide +kernel
theorem chL_4_0 : ∀ low : Fin 30, chL (low.val + 1) 4 = true := by decide +kernel
theorem chL_4_1 : ∀ low : Fin 30, chL (low.val + 31) 4 = true := by decide +kernel
theorem chL_5_0 : ∀ low : Fin 30, chL (low.val + 1) 5 = true := by decide +kernel
theorem chL_5_1 : ∀ low : Fin 30, chL (low.val + 31) 5 = true := by decide +kernel
theorem chL_6_0 : ∀ low : Fin 30, chL (low.val + 1) 6 = true := by decide +kernel
theorem chL_6_1 : ∀ low : Fin 30, chL (low.val + 31) 6 = true := by decide +kernel
theorem chL_7_0 : ∀ low : Fin 15, chL (low.val + 1) 7 = true := by decide +kernel
theorem chL_7_1 : ∀ low : Fin 15, chL (low.val + 16) 7 = true := by decide +kernel
theorem chL_7_2 : ∀ low : Fin 15, chL (low.val + 31) 7 = true := by decide +kernel
theorem chL_7_3 : ∀ low : Fin 15, chL (low.val + 46) 7 = true := by decide +kernel
theorem chL_8_0 : ∀ low : Fin 15, chL (low.val + 1) 8 = true := by decide +kernel
theorem chL_8_1 : ∀ low : Fin 15, chL (low.val + 16) 8 = true := by decide +kernel
theorem chL_8_2 : ∀ low : Fin 15, chL (low.val + 31) 8 = true := by decide +kernel
theorem chL_8_3 : ∀ low : Fin 15, chL (low.val + 46) 8 = true := by decide +kernel
theorem chL_9_0 : ∀ low : Fin 15, chL (low.val + 1) 9 = true := by decide +kernel
theorem chL_9_1 : ∀ low : Fin 15, chL (low.val + 16) 9 = true := by decide +kernel
theorem chL_9_2 : ∀ low : Fin 15, chL (low.val + 31) 9 = true := by decide +kernel
theorem chL_9_3 : ∀ low : Fin 15, chL (low.val + 46) 9 = true := by decide +kernel
theorem chL_all (low k : Nat) (h1 : 1 ≤ low) (h2 : low ≤ 60) (hk : k ≤ 9) : chL low k = true := by
  have hc : k = 0 ∨ k = 1 ∨ k = 2 ∨ k = 3 ∨ k = 4 ∨ k = 5 ∨ k = 6 ∨ k = 7 ∨ k = 8 ∨ k = 9 := by omega
  rcases hc with rfl | rfl | rfl | rfl | rfl | rfl | rfl | rfl | rfl | rfl
  · have := chL_0_0 ⟨low - 1, by omega⟩
    rw [show low - 1 + 1 = low by omega] at this
    exact this
  · have := chL_1_0 ⟨low - 1, by omega⟩
    rw [show low - 1 + 1 = low by omega] at this
    exact this
  · have := chL_2_0 ⟨low - 1, by omega⟩
    rw [show low - 1 + 1 = low by omega] at this
    exact this
  · have := chL_3_0 ⟨low - 1, by omega⟩
    rw [show low - 1 + 1 = low by omega] at this
    exact this
  · have hd : (1 ≤ low ∧ low ≤ 30) ∨ (31 ≤ low ∧ low ≤ 60) := by omega
    rcases hd with hd | hd
    · have := chL_4_0 ⟨low - 1, by omega⟩
      rw [show low - 1 + 1 = low by omega] at this
      exact this
    · have := chL_4_1 ⟨low - 31, by omega⟩
      rw [show low - 31 + 31 = low by omega] at this
      exact this
  · have hd : (1 ≤ low ∧ low ≤ 30) ∨ (31 ≤ low ∧ low ≤ 60) := by omega
    rcases hd with hd | hd
    · have := chL_5_0 ⟨low - 1, by omega⟩
      rw [show low - 1 + 1 = low by omega] at this
      exact this
    · have := chL_5_1 ⟨low - 31, by omega⟩
      rw [show low - 31 + 31 = low by omega] at this
      exact this
  · have hd : (1 ≤ low ∧ low ≤ 30) ∨ (31 ≤ low ∧ low ≤ 60) := by omega
    rcases hd with hd | hd
    · have := chL_6_0 ⟨low - 1, by omega⟩
      rw [show low - 1 + 1 = low by omega] at this
      exact this
    · have := chL_6_1 ⟨low - 31, by omega⟩
      rw [show low - 31 + 31 = low by omega] at this
      exact this
  · have hd : (1 ≤ low ∧ low ≤ 15) ∨ (16 ≤ low ∧ low ≤ 30) ∨ (31 ≤ low ∧ low ≤ 45) ∨ (46 ≤ low ∧ low ≤ 60) := by omega
    rcases hd with hd | hd | hd | hd
    · have := chL_7_0 ⟨low - 1, by omega⟩
      rw [show low - 1 + 1 = low by omega] at this
      exact this
    · have := chL_7_1 ⟨low - 16, by omega⟩
      rw [show low - 16 + 16 = low by omega] at this
      exact this
    · have := chL_7_2 ⟨low - 31, by omega⟩
      rw [show low - 31 + 31 = low by omega] at this
      exact this
    · have := chL_7_3 ⟨low - 46, by omega⟩
      rw [show low - 46 + 46 = low by omega] at this
      exact this
  · have hd : (1 ≤ low ∧ low ≤ 15) ∨ (16 ≤ low ∧ low ≤ 30) ∨ (31 ≤ low ∧ low ≤ 45) ∨ (46 ≤ low ∧ low ≤ 60) := by omega
    rcases hd with hd | hd | hd | hd
    · have := chL_8_0 ⟨low - 1, by omega⟩
      rw [show low - 1 + 1 = low by omega] at this
      exact this
    · have := chL_8_1 ⟨low - 16, by omega⟩
      rw [show low - 16 + 16 = low by omega] at this
      exact this
    · have := chL_8_2 ⟨low - 31, by omega⟩
      rw [show low - 31 + 31 = low by omega] at this
      exact this
    · have := chL_8_3 ⟨low - 46, by omega⟩
      rw [show low - 46 + 46 = low by omega] at this
      exact this
  · have hd : (1 ≤ low ∧ low ≤ 15) ∨ (16 ≤ low ∧ low ≤ 30) ∨ (31 ≤ low ∧ low ≤ 45) ∨ (46 ≤ low ∧ low ≤ 60) := by omega
    rcases hd with hd | hd | hd | hd
    · have := chL_9_0 ⟨low - 1, by omega⟩
      rw [show low - 1 + 1 = low by omega] at this
      exact this
    · have := chL_9_1 ⟨low - 16, by omega⟩
      rw [show low - 16 + 16 = low by omega] at this
      exact this
    · have := chL_9_2 ⟨low - 31, by omega⟩
      rw [show low - 31 + 31 = low by omega] at this
      exact this
    · have := chL_9_3 ⟨low - 46, by omega⟩
      rw [show low - 46 + 46 = low by omega] at this
      exact this
end Go.Proofs.YtlgemficalcghaaGreat
/- ProgLong: the walk. -/
namespace Go.Proofs.YtlgemficalcghaaGreat
open Go.ChangeShapes Go.WideShapes Go.ChangeAt Go.RowKit
set_option linter.unusedVariables false
set_option linter.unusedSimpArgs false
theorem sL_len (low i : Nat) (h : low ≤ 60) : (sL low i).length ≤ 11 * i + 1 := by
  have := dG_len (show low < 1200 by omega)
  induction i with
  | zero => simp [sL]
  | succ i ih => simp [sL]; omega
theorem mL_le (low i : Nat) (h : 1 ≤ low) : 1 ≤ mL low i ∧ mL low i ≤ 1048576 := by
  cases i with
  | zero => simp [mL]
  | succ i =>
    simp only [mL]
    have : 1 ≤ low * (mL low i + 2) := Nat.mul_pos (by omega) (by omega)
    omega
section
variable {w w1 : World}
set_option maxHeartbeats 4000000 in
set_option maxRecDepth 100000 in
theorem long_law (dp : Nat) (hdp : dp < 256) (n : Nat) (hn : n < 256) (g : Gm w) : Calls Tryz.prog 5 #[.int .u8 dp, .int .u8 n] w fun e w' => e = .returned (.bool true) ∧ Kp w w' := by
  obtain ⟨k', hk'⟩ : ∃ k, dp % 9 = k := ⟨_, rfl⟩
  have e1 : (dp : Int) % 9 = (k' : Int) := by omega
  obtain ⟨k, hk⟩ : ∃ k, k' + 1 = k := ⟨_, rfl⟩
  have e2 : 1 + (k' : Int) = (k : Int) := by omega
  have hk9 : 1 ≤ k ∧ k ≤ 9 := by omega
  obtain ⟨l', hl'⟩ : ∃ l, n % 60 = l := ⟨_, rfl⟩
  have e3 : (n : Int) % 60 = (l' : Int) := by omega
  obtain ⟨low, hlow⟩ : ∃ l, l' + 1 = l := ⟨_, rfl⟩
  have e4 : 1 + (l' : Int) = (low : Int) := by omega
  have hl60 : 1 ≤ low ∧ low ≤ 60 := by omega
  have HG : Hid (Gm w ∧ chL low k = true) := ⟨g, chL_all low k hl60.1 hl60.2 hk9.2⟩
  have HD : Hid (∀ x, Calls Tryz.prog 14 #[.int .i64 low] x fun e w' => e = .returned (str (dG low)) ∧ Kp x w') := fun x => qdG_any (by omega) x
  clear g hk' hk hl' hlow
  go_enter Tryz.func5, Tryz.ntmps5
  go_wp2_with fail
  clear e1 e2 e3 e4
  go_loopw [7, 8, 9] (fun v7 v8 v9 wr => ∃ i : Nat, i ≤ k ∧ v9 = .int .i64 i ∧ v7 = str (sL low i) ∧ v8 = .int .i64 (mL low i) ∧ Hid (Kp w wr)) (fun _ _ v9 _ => k - (intOf v9).toNat)
  case atStart => exact ⟨0, Nat.zero_le _, rfl, rfl, rfl, Below.refl _ _⟩
  case round =>
    obtain ⟨i, hi, rfl, rfl, rfl, HK⟩ := hrel
    by_cases hlt : i < k
    · have dl : decide ((i : Int) < (k : Int)) = true := decide_eq_true (by omega)
      have hl := sL_len low i hl60.2
      have hm := mL_le low i hl60.1
      have ld := dG_len (show low < 1200 by omega)
      obtain ⟨S0, hS0⟩ : ∃ S, sL low i = S := ⟨_, rfl⟩
      rw [hS0] at hl ⊢
      obtain ⟨y1, hy1⟩ : ∃ y, [92, 40] ++ S0 = y := ⟨_, rfl⟩
      obtain ⟨y2, hy2⟩ : ∃ y, y1 ++ [92, 41, 92, 123] = y := ⟨_, rfl⟩
      obtain ⟨y3, hy3⟩ : ∃ y, y2 ++ dG low = y := ⟨_, rfl⟩
      obtain ⟨y4, hy4⟩ : ∃ y, y3 ++ [125] = y := ⟨_, rfl⟩
      have l1 : y1.length ≤ 200 := by rw [← hy1]; simp; omega
      have l2 : y2.length ≤ 300 := by rw [← hy2]; simp; omega
      have l3 : y3.length ≤ 400 := by rw [← hy3]; simp; omega
      have hA1 := cat_run hy1 (by omega)
      have hA2 := cat_run hy2 (by omega)
      have hA3 := cat_run hy3 (by omega)
      have hA4 := cat_run hy4 (by rw [← hy4]; simp; omega)
      have HZ : Hid (sL low (i + 1) = y4) := by show sL low (i + 1) = y4; rw [← hy4, ← hy3, ← hy2, ← hy1, ← hS0]; simp [sL]
      obtain ⟨P, hP⟩ : ∃ P, low * (mL low i + 2) = P := ⟨_, rfl⟩
      have HM : Hid (mL low (i + 1) = min P 1048576) := by show _ = _; rw [← hP]; rfl
      obtain ⟨m0, hm0⟩ : ∃ m0, mL low i = m0 := ⟨_, rfl⟩
      rw [hm0] at hm hP ⊢
      have hPm : (low : Int) * ((m0 : Int) + 2) = (P : Int) := by rw [← hP]; simp
      have hPb : P ≤ 100000000 := by
        rw [← hP]
        have := Nat.mul_le_mul_right (m0 + 2) hl60.2
        omega
      clear hy1 hy2 hy3 hy4 l1 l2 l3 hS0 hP hm0 hl ld
      go_wp2_with fail
      refine Calls.mono (HD.out _) ?_
      rintro e w1 ⟨rfl, q⟩
      have HK1 : Hid (Kp w w1) := kp_trans HK.out q
      clear q
      by_cases hmin : P ≤ 1048576
      · have hmm : min (P : Int) 1048576 = (P : Int) := by omega
        go_wp2_with fail
        go_roundw
        case rel => exact ⟨i + 1, by omega, by go_num, by rw [HZ.out], by rw [HM.out, Nat.min_eq_left hmin], HK1⟩
        case measure => simp only [intOf]; omega
      · have hmm : min (P : Int) 1048576 = 1048576 := by omega
        go_wp2_with fail
        go_roundw
        case rel => exact ⟨i + 1, by omega, by go_num, by rw [HZ.out], by rw [HM.out, Nat.min_eq_right (by omega)]; rfl, HK1⟩
        case measure => simp only [intOf]; omega
    · have hik : i = k := by omega
      subst hik
      have dl : decide ((i : Int) < (i : Int)) = false := by simp
      have hch := HG.out.2
      have hm := mL_le low i hl60.1
      unfold chL at hch
      cases hr : resF (sL low i) with
      | none => rw [hr] at hch; cases hch
      | some r =>
        rw [hr] at hch
        simp only [Bool.and_eq_true, beq_iff_eq] at hch
        obtain ⟨⟨ho, hcs⟩, hln⟩ := hch
        obtain ⟨m0, hm0⟩ : ∃ m0, mL low i = m0 := ⟨_, rfl⟩
        rw [hm0] at hm hln ⊢
        have HF : Hid (resF (sL low i) = some r ∧ okR r = true ∧ Kp w wr) := ⟨hr, ho, HK.out⟩
        clear hr ho hm0 hcs
        go_wp2_with fail
        refine Calls.mono (seen_parse HF.out.1 (HG.out.1.kp HF.out.2.2)) ?_
        rintro e w1 ⟨va, vc, rfl, q1, q2⟩
        have H1 : Hid (Pt w1 (.slice va r.nds.length vc) (r.nds.map Nd.q) ∧ Kp w w1) := ⟨q1, kp_trans HF.out.2.2 q2⟩
        clear q1 q2
        go_wp2_with fail
        refine Calls.mono (seen_compile HF.out.1 HF.out.2.1 (H1.out.1.kp (kp_alloc _ _)) false) ?_
        by_cases hbig : 2000 < m0 + 1
        · have db : decide ((2000 : Int) < (m0 : Int) + 1) = true := decide_eq_true (by omega)
          rw [if_pos hbig, decide_eq_true_eq] at hln
          have hp : progF r.t = none := by
            cases hp : progF r.t with
            | none => rfl
            | some x => have := progF_fits.1 ⟨x, hp⟩; omega
          rw [hp]
          rintro e w2 ⟨rfl, q2⟩
          have H2 : Hid (Kp w w2) := kp_trans (kp_trans H1.out.2 (kp_alloc _ _)) q2
          clear q2 hp hln
          go_wp2_with fail
          refine Calls.mono (qknown_any (HG.out.1.kp (kp_trans H2.out (kp_alloc _ _)))) ?_
          rintro e w3 ⟨rfl, q⟩
          have H3 : Hid (Kp w w3) := kp_trans (kp_trans H2.out (kp_alloc _ _)) q
          obtain ⟨⟨g0, g1, g2⟩, _⟩ := ((show PgBox w2.heap.size (.slice none 0 0) (.int .i64 0) (.bool false) (w2.alloc (.cells #[.slice none 0 0, .int .i64 0, .bool false] 32)) from alloc_new w2 _).fr (S := fun _ => False) (Fr.of_below q) (fun z => z)).cells
          clear q
          go_wp2_with fail
          go_ret
          exact ⟨by simp, H3.out⟩
        · have db : decide ((2000 : Int) < (m0 : Int) + 1) = false := decide_eq_false (by omega)
          rw [if_neg hbig, beq_iff_eq] at hln
          obtain ⟨x, hp⟩ := progF_fits.2 (show r.t.len + 1 ≤ 2000 by omega)
          have hx := (progF_len hp).1
          rw [hp]
          rintro e w2 ⟨ca, cap, rfl, _, q2⟩
          obtain ⟨N, hN⟩ : ∃ N, x.1.length = N := ⟨_, rfl⟩
          obtain ⟨rd, hrd⟩ : ∃ rd, x.2 = rd := ⟨_, rfl⟩
          obtain ⟨f, hf⟩ : ∃ f, foldsB r.cs false = f := ⟨_, rfl⟩
          rw [hN, hrd, hf]
          have hN1 : (m0 : Int) + 1 = (N : Int) := by omega
          have H2 : Hid (Kp w w2) := kp_trans (kp_trans H1.out.2 (kp_alloc _ _)) q2
          have hNb : N ≤ 2000 := by omega
          have db2 : decide ((2000 : Int) < (N : Int)) = false := decide_eq_false (by omega)
          clear q2 hp hln hx hN hrd hf
          go_wp2_with fail
          refine Calls.mono (qknown_any (HG.out.1.kp (kp_trans H2.out (kp_alloc _ _)))) ?_
          rintro e w3 ⟨rfl, q⟩
          have H3 : Hid (Kp w w3) := kp_trans (kp_trans H2.out (kp_alloc _ _)) q
          obtain ⟨⟨g0, g1, g2⟩, _⟩ := ((show PgBox w2.heap.size (.slice ca N cap) (.int .i64 rd) (.bool f) (w2.alloc (.cells #[.slice ca N cap, .int .i64 rd, .bool f] 32)) from alloc_new w2 _).fr (S := fun _ => False) (Fr.of_below q) (fun z => z)).cells
          clear q
          go_wp2_with fail
          go_ret
          exact ⟨by simp, H3.out⟩
end
end Go.Proofs.YtlgemficalcghaaGreat
