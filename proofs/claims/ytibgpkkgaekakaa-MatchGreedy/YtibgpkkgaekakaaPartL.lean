import Derived.Test.YtibgpkkgaekakaaPartK
import Derived.Test.YtibgpkkgaekakaaPartJ
namespace Go.Proofs.Ytibgpkkgaekakaa
open Go.ChangeShapes Go.WideShapes Go.ChangeAt Go.RowKit
set_option linter.unusedVariables false
set_option linter.unusedSimpArgs false
section
variable {w0 : World} {mb : Nat} {s : ByteArray} {fo : Bool} {cv bv wv av : Value} {m : Mc} {w w1 w2 : World} {N R M : Nat}
theorem passes_m (h : Mw w0 mb s fo cv m bv wv av w) (ho : Okm N s.size R M m) (hz : s.size ≤ 1000000) (hM : M ≤ 100000) (hR : R ≤ 100000) (d : Ins) (hd : d.set.ok) (hf : fitD N R d = true) :
    Calls Try.prog 66 #[.pointer (some ⟨mb, 0, none⟩), d.val] w fun e w' => e = .returned (.bool (passE s fo d m).1) ∧ Mx w0 mb s fo cv (passE s fo d m).2 w' := by
  obtain ⟨op, c, st, x, y⟩ := d
  simp only at hd
  by_cases h6 : op = 6
  · subst h6
    have : 0 ≤ x ∧ x < 22 := by unfold fitD plB at hf; simp at hf; omega
    obtain ⟨x, rfl⟩ : ∃ n : Nat, x = (n : Int) := ⟨x.toNat, by omega⟩
    exact passes6 h ho hz (by omega) hd
  by_cases h7 : op = 7
  · subst h7
    have : 0 ≤ x ∧ x < 10 := by unfold fitD plB at hf; simp at hf; omega
    obtain ⟨x, rfl⟩ : ∃ n : Nat, x = (n : Int) := ⟨x.toNat, by omega⟩
    exact passes7 h ho hz (by omega) hd
  by_cases h8 : op = 8
  · subst h8; exact passes8 h ho hz hd
  by_cases h9 : op = 9
  · subst h9; exact passes9 h ho hz hd
  by_cases h10 : op = 10
  · subst h10; exact passes10 h ho hz hd
  by_cases h11 : op = 11
  · subst h11; exact passes11 h ho hz hd
  by_cases h12 : op = 12
  · subst h12
    have : 0 ≤ x ∧ x < (R : Int) := by unfold fitD plB at hf; simp at hf; omega
    obtain ⟨x, rfl⟩ : ∃ n : Nat, x = (n : Int) := ⟨x.toNat, by omega⟩
    exact passes12 h ho hz hM hR (by omega) hd
  by_cases h13 : op = 13
  · subst h13
    have : 0 ≤ x ∧ x < (R : Int) := by unfold fitD plB at hf; simp at hf; omega
    obtain ⟨x, rfl⟩ : ∃ n : Nat, x = (n : Int) := ⟨x.toNat, by omega⟩
    exact passes13 h ho hz hR (by omega) hd
  exact passesE h ho hz (by omega) hd
set_option maxHeartbeats 2000000 in
set_option maxRecDepth 100000 in
theorem doS_m {c : Nat} {st : S4} {x y : Nat} (h : Mw w0 mb s fo cv m bv wv av w) (ho : Okm N s.size R M m) (hM : M ≤ 100000) :
    Calls Try.prog 52 #[.pointer (some ⟨mb, 0, none⟩), (Ins.mk 4 c st x y).val] w fun e w' => e = .returned (.bool true) ∧ Mx w0 mb s fo cv ((asideE y m).go x) w' := by
  have HS : Hid (m.t.ss.length = 22) := ho.t.len
  obtain ⟨bx, hbx⟩ : ∃ b, w.heap.size = b := ⟨_, rfl⟩
  obtain ⟨W1, hW1⟩ : ∃ W, w.alloc (.cells #[.int .u8 4, .int .u8 c, .int .u64 st.a, .int .u64 st.b, .int .u64 st.c, .int .u64 st.d, .int .i64 x, .int .i64 y] 90) = W := ⟨_, rfl⟩
  have H1 : Hid (Kp w W1 ∧ Lc 90 bx (Ins.mk 4 c st x y).cells W1) := by rw [← hW1, ← hbx]; exact ⟨kp_alloc _ _, Lc.new w (Ins.mk 4 c st x y).cells _⟩
  have HC : Hid (Calls Try.prog 65 #[.pointer (some ⟨mb, 0, none⟩), .int .i64 y] W1 fun e w' => e = .returned (.tuple #[]) ∧ Mx w0 mb s fo cv (asideE y m) w' ∧ Oth W1 w') := layAside_m (h.kpp H1.out.1) ho hM y
  have b0 : W1.cell? ⟨bx, 0, none⟩ = some (.int .u8 4) := H1.out.2.at rfl
  have b7 : W1.cell? ⟨bx, 7, none⟩ = some (.int .i64 y) := H1.out.2.at rfl
  unfold Ins.val
  clear h ho
  go_enter Try.func52, Try.ntmps52
  go_upto_region 5 with fail
  try rw [hW1]
  try rw [hbx]
  clear hW1 hbx
  go_upto_region 6 with (go_at_call 65; refine Calls.mono HC.out ?_; rintro e w3 ⟨rfl, ⟨bv3, wv3, av3, q1⟩, q2⟩; have H3 : Hid (Mw w0 mb s fo cv (asideE y m) bv3 wv3 av3 w3 ∧ Lc 90 bx (Ins.mk 4 c st x y).cells w3) := ⟨q1, q2 _ _ _ (by decide) (by decide) (by decide) (by decide) H1.out.2⟩; clear q1 q2)
  have d6 : w3.cell? ⟨bx, 6, none⟩ = some (.int .i64 x) := H3.out.2.at rfl
  have e26 := H3.out.1.c26 (m := asideE y m) HS.out
  have f26 := H3.out.1.st.fz 26
  have H4 : Hid (Mw w0 mb s fo cv ((asideE y m).go x) bv3 wv3 av3 (w3.setCell ⟨mb, 26, none⟩ (.int .i64 x))) := H3.out.1.setNx (m := asideE y m) HS.out x
  go_wp2_with fail
  go_ret
  exact ⟨rfl, H4.out.x⟩
set_option maxHeartbeats 2000000 in
set_option maxRecDepth 100000 in
theorem doJ_m {c : Nat} {st : S4} {x : Nat} {y : Int} (h : Mw w0 mb s fo cv m bv wv av w) (hs : m.t.ss.length = 22) :
    Calls Try.prog 52 #[.pointer (some ⟨mb, 0, none⟩), (Ins.mk 5 c st x y).val] w fun e w' => e = .returned (.bool true) ∧ Mx w0 mb s fo cv (m.go x) w' := by
  obtain ⟨bx, hbx⟩ : ∃ b, w.heap.size = b := ⟨_, rfl⟩
  obtain ⟨W1, hW1⟩ : ∃ W, w.alloc (.cells #[.int .u8 5, .int .u8 c, .int .u64 st.a, .int .u64 st.b, .int .u64 st.c, .int .u64 st.d, .int .i64 x, .int .i64 y] 90) = W := ⟨_, rfl⟩
  have H1 : Hid (Kp w W1 ∧ Lc 90 bx (Ins.mk 5 c st x y).cells W1) := by rw [← hW1, ← hbx]; exact ⟨kp_alloc _ _, Lc.new w (Ins.mk 5 c st x y).cells _⟩
  have H3 : Hid (Mw w0 mb s fo cv m bv wv av W1) := h.kpp H1.out.1
  have b0 : W1.cell? ⟨bx, 0, none⟩ = some (.int .u8 5) := H1.out.2.at rfl
  have b6 : W1.cell? ⟨bx, 6, none⟩ = some (.int .i64 x) := H1.out.2.at rfl
  have e26 := H3.out.c26 hs
  have f26 := H3.out.st.fz 26
  have H4 : Hid (Mw w0 mb s fo cv (m.go x) bv wv av (W1.setCell ⟨mb, 26, none⟩ (.int .i64 x))) := H3.out.setNx hs x
  unfold Ins.val
  clear h
  go_enter Try.func52, Try.ntmps52
  go_upto_region 7 with fail
  try rw [hW1]
  try rw [hbx]
  clear hW1 hbx
  go_wp2_with fail
  go_ret
  exact ⟨rfl, H4.out.x⟩
set_option maxHeartbeats 4000000 in
set_option maxRecDepth 100000 in
theorem doE_m {ca : Option Addr} {cc : Nat} (h : Mw w0 mb s fo (.slice ca N cc) m bv wv av w) (ho : Okm N s.size R M m) (hn : m.t.nx < N) (hN : N ≤ 100000) (hz : s.size ≤ 1000000) (hM : M ≤ 100000) (hR : R ≤ 100000) (d : Ins) (hd : d.set.ok) (hf : fitD N R d = true) (h4 : d.op ≠ 4) (h5 : d.op ≠ 5) :
    Calls Try.prog 52 #[.pointer (some ⟨mb, 0, none⟩), d.val] w fun e w' => e = .returned (.bool (doE N s fo d m).1) ∧ Mx w0 mb s fo (.slice ca N cc) (doE N s fo d m).2 w' := by
  have hs := ho.t.len
  obtain ⟨Y, hY⟩ : ∃ Y, doE N s fo d m = Y := ⟨_, rfl⟩
  rw [hY]
  obtain ⟨nx, hnx⟩ : ∃ n, m.t.nx = n := ⟨_, rfl⟩
  have HY : Hid (Y = if nx + 1 < N then passE s fo d (m.go (nx + 1)) else (false, m.go (nx + 1))) := by show _ = _; rw [← hY, ← hnx]; unfold doE; rw [if_neg h4, if_neg h5]
  rw [hnx] at hn
  obtain ⟨bx, hbx⟩ : ∃ b, w.heap.size = b := ⟨_, rfl⟩
  obtain ⟨W1, hW1⟩ : ∃ W, w.alloc (.cells #[.int .u8 d.op, .int .u8 d.c, .int .u64 d.set.a, .int .u64 d.set.b, .int .u64 d.set.c, .int .u64 d.set.d, .int .i64 d.x, .int .i64 d.y] 90) = W := ⟨_, rfl⟩
  have H1 : Hid (Kp w W1 ∧ Lc 90 bx d.cells W1) := by rw [← hW1, ← hbx]; exact ⟨kp_alloc _ _, Lc.new w d.cells _⟩
  have H1M : Hid (Mw w0 mb s fo (.slice ca N cc) m bv wv av W1) := h.kpp H1.out.1
  have b0 : W1.cell? ⟨bx, 0, none⟩ = some (.int .u8 d.op) := H1.out.2.at rfl
  have e26 : W1.cell? ⟨mb, 26, none⟩ = some (.int .i64 nx) := by rw [← hnx]; exact H1M.out.c26 hs
  have f26 := H1M.out.st.fz 26
  have n4 : ((d.op : Int) == 4) = false := by simp; omega
  have m4 : decide ((d.op : Int) = 4) = false := by simp; omega
  have n5 : ((d.op : Int) == 5) = false := by simp; omega
  have m5 : decide ((d.op : Int) = 5) = false := by simp; omega
  obtain ⟨W2, hW2⟩ : ∃ W, W1.setCell ⟨mb, 26, none⟩ (.int .i64 ((nx : Int) + 1)) = W := ⟨_, rfl⟩
  have H2 : Hid (Mw w0 mb s fo (.slice ca N cc) (m.go (nx + 1)) bv wv av W2 ∧ Lc 90 bx d.cells W2) := by
    have := H1M.out.setNx hs (nx + 1)
    rw [show ((nx + 1 : Nat) : Int) = (nx : Int) + 1 by omega, hW2] at this
    refine ⟨this, ?_⟩
    rw [← hW2]
    exact H1.out.2.other (fun e => lc_ne H1M.out.st H1.out.2 (by decide) e)
  have HP : Hid (nx + 1 < N → Calls Try.prog 66 #[.pointer (some ⟨mb, 0, none⟩), .agg #[.int .u8 d.op, .int .u8 d.c, .int .u64 d.set.a, .int .u64 d.set.b, .int .u64 d.set.c, .int .u64 d.set.d, .int .i64 d.x, .int .i64 d.y]] W2.drew fun e w' => e = .returned (.bool (passE s fo d (m.go (nx + 1))).1) ∧ Mx w0 mb s fo (.slice ca N cc) (passE s fo d (m.go (nx + 1))).2 w') := by
    intro hl
    exact passes_m (H2.out.1.kpp (kp_drew _)) (ho.to (by omega)) hz hM hR d hd hf
  have g26 : W2.cell? ⟨mb, 26, none⟩ = some (.int .i64 ((nx : Int) + 1)) := by have := H2.out.1.c26 (m := m.go (nx + 1)) hs; rw [show ((m.go (nx + 1)).t.nx : Int) = (nx : Int) + 1 from by show ((nx + 1 : Nat) : Int) = _; omega] at this; exact this
  have g29 := H2.out.1.c29 (m := m.go (nx + 1)) hs
  unfold Ins.val
  clear h ho hY hnx hd hf h4 h5
  go_enter Try.func52, Try.ntmps52
  go_upto_region 2 with fail
  try rw [hW1]
  try rw [hbx]
  clear hW1 hbx
  go_upto_region 3 with fail
  try rw [hW2]
  clear hW2 e26 f26 b0
  by_cases hl : nx + 1 < N
  · have dl : decide ((nx : Int) + 1 < (N : Int)) = true := decide_eq_true (by omega)
    have b0 : W2.cell? ⟨bx, 0, none⟩ = some (.int .u8 d.op) := H2.out.2.at rfl
    have b1 : W2.cell? ⟨bx, 1, none⟩ = some (.int .u8 d.c) := H2.out.2.at rfl
    have b2 : W2.cell? ⟨bx, 2, none⟩ = some (.int .u64 d.set.a) := H2.out.2.at rfl
    have b3 : W2.cell? ⟨bx, 3, none⟩ = some (.int .u64 d.set.b) := H2.out.2.at rfl
    have b4 : W2.cell? ⟨bx, 4, none⟩ = some (.int .u64 d.set.c) := H2.out.2.at rfl
    have b5 : W2.cell? ⟨bx, 5, none⟩ = some (.int .u64 d.set.d) := H2.out.2.at rfl
    have b6 : W2.cell? ⟨bx, 6, none⟩ = some (.int .i64 d.x) := H2.out.2.at rfl
    have b7 : W2.cell? ⟨bx, 7, none⟩ = some (.int .i64 d.y) := H2.out.2.at rfl
    have HRX : Hid (Y = passE s fo d (m.go (nx + 1))) := by show _ = _; rw [HY.out, if_pos hl]
    have HPP : Hid _ := HP.out hl
    go_region_with (go_at_call 66; refine Calls.mono HPP.out ?_; rintro e w3 ⟨rfl, q⟩; have H3 : Hid (Mx w0 mb s fo (.slice ca N cc) (passE s fo d (m.go (nx + 1))).2 w3) := q; clear q)
    all_goals
      go_wp2_with fail
      go_ret
      rw [HRX.out]
      exact ⟨rfl, H3.out⟩
  · have dl : decide ((nx : Int) + 1 < (N : Int)) = false := decide_eq_false (by omega)
    have HRX : Hid (Y = (false, m.go (nx + 1))) := by show _ = _; rw [HY.out, if_neg hl]
    go_region
    all_goals
      go_wp2_with fail
      go_ret
      rw [HRX.out]
      exact ⟨rfl, (H2.out.1.kpp (kp_drew _)).x⟩
end
end Go.Proofs.Ytibgpkkgaekakaa
namespace Go.Proofs.Ytibgpkkgaekakaa
open Go.ChangeShapes Go.WideShapes Go.ChangeAt Go.RowKit
set_option linter.unusedVariables false
set_option linter.unusedSimpArgs false
section
variable {w0 : World} {mb : Nat} {s : ByteArray} {fo : Bool} {cv bv wv av : Value} {m : Mc} {w w1 w2 : World} {N R M : Nat}
theorem do_m {ca : Option Addr} {cc : Nat} (h : Mw w0 mb s fo (.slice ca N cc) m bv wv av w) (ho : Okm N s.size R M m) (hn : m.t.nx < N) (hN : N ≤ 100000) (hz : s.size ≤ 1000000) (hM : M ≤ 100000) (hR : R ≤ 100000) (d : Ins) (hd : d.set.ok) (hf : fitD N R d = true) :
    Calls Try.prog 52 #[.pointer (some ⟨mb, 0, none⟩), d.val] w fun e w' => e = .returned (.bool (doE N s fo d m).1) ∧ Mx w0 mb s fo (.slice ca N cc) (doE N s fo d m).2 w' := by
  by_cases h4 : d.op = 4
  · obtain ⟨op, c, st, x, y⟩ := d
    simp only at h4
    subst h4
    have : 0 ≤ x ∧ x < (N : Int) ∧ 0 ≤ y ∧ y < (N : Int) := by unfold fitD plB at hf; simp at hf; omega
    obtain ⟨x, rfl⟩ : ∃ n : Nat, x = (n : Int) := ⟨x.toNat, by omega⟩
    obtain ⟨y, rfl⟩ : ∃ n : Nat, y = (n : Int) := ⟨y.toNat, by omega⟩
    exact doS_m h ho hM
  by_cases h5 : d.op = 5
  · obtain ⟨op, c, st, x, y⟩ := d
    simp only at h5
    subst h5
    have : 0 ≤ x ∧ x < (N : Int) := by unfold fitD plB at hf; simp at hf; omega
    obtain ⟨x, rfl⟩ : ∃ n : Nat, x = (n : Int) := ⟨x.toNat, by omega⟩
    exact doJ_m h ho.t.len
  exact doE_m h ho hn hN hz hM hR d hd hf h4 h5
theorem cell_lt {w : World} {n off : Nat} {v : Value} (h : w.cell? ⟨n, off, none⟩ = some v) : n < w.heap.size := by
  unfold World.cell? at h
  cases hg : w.heap[n]? with
  | none => simp [hg] at h
  | some o => exact (Array.getElem?_eq_some_iff.1 hg).1
def stOf (mb : Nat) (w : World) : Nat := match w.cell? ⟨mb, 31, none⟩ with | some (.int _ n) => n.toNat | _ => 0
theorem Mw.stOf (h : Mw w0 mb s fo cv m bv wv av w) (hs : m.t.ss.length = 22) : stOf mb w = m.st := by
  unfold Go.Proofs.Ytibgpkkgaekakaa.stOf
  rw [h.c31 hs]
  rfl
structure Kn (w0 : World) (ca : Option Addr) (N cc : Nat) (C : List Ins) (s : ByteArray) (R M : Nat) : Prop where
  cd : Cd w0 (.slice ca N cc) C
  len : C.length = N
  fit : Fit C R
  ok : ∀ d ∈ C, d.set.ok
  pos : 0 < N
  hN : N ≤ 100000
  hz : s.size ≤ 1000000
  hM : M ≤ 100000
  hR : R ≤ 100000
def Gi (w0 : World) (mb : Nat) (s : ByteArray) (fo : Bool) (cv : Value) (C : List Ins) (N R M : Nat) (G : Nat × Mc) (w : World) : Prop :=
  ∃ m bv wv av, Mw w0 mb s fo cv m bv wv av w ∧ Okm N s.size R M m ∧ m.t.nx < N ∧ goE C s fo m.st m = G
set_option maxHeartbeats 4000000 in
set_option maxRecDepth 100000 in
theorem goOn_m {ca : Option Addr} {cc : Nat} {C : List Ins} (k : Kn w0 ca N cc C s R M) (h : Mw w0 mb s fo (.slice ca N cc) m bv wv av w) (ho : Okm N s.size R M m) (hn : m.t.nx < N) :
    Calls Try.prog 40 #[.pointer (some ⟨mb, 0, none⟩)] w fun e w' => e = .returned (.int .u8 (goE C s fo m.st m).1) ∧ Mx w0 mb s fo (.slice ca N cc) (goE C s fo m.st m).2 w' := by
  obtain ⟨G, hG⟩ : ∃ G, goE C s fo m.st m = G := ⟨_, rfl⟩
  rw [hG]
  have H0 : Hid (Gi w0 mb s fo (.slice ca N cc) C N R M G w) := ⟨m, bv, wv, av, h, ho, hn, hG⟩
  have HK : Hid (Kn w0 ca N cc C s R M) := k
  obtain ⟨d0, hd0⟩ : ∃ d, C[0]? = some d := ⟨_, List.getElem?_eq_getElem (by rw [k.len]; exact k.pos)⟩
  obtain ⟨cb, co, rfl, _⟩ := k.cd.at_ hd0
  have hNN := k.hN
  obtain ⟨_, hcc, hcm⟩ := k.cd.len
  unfold maxLen at hcm
  clear h ho hn hG hd0 k
  go_enter Try.func40, Try.ntmps40
  go_wp2_with fail
  go_loopw [] (fun wr => Hid (Gi w0 mb s fo (.slice (some ⟨cb, co, none⟩) N cc) C N R M G wr)) (fun wr => stOf mb wr)
  case atStart => exact H0
  case round =>
    obtain ⟨m, bv, wv, av, h, ho, hn, hG⟩ := hrel.out
    clear hrel
    have HS : Hid (m.t.ss.length = 22) := ho.t.len
    have HST : Hid (stOf mb wr = m.st) := h.stOf ho.t.len
    obtain ⟨n, hst⟩ : ∃ n, m.st = n := ⟨_, rfl⟩
    have c31 : wr.cell? ⟨mb, 31, none⟩ = some (.int .i64 n) := by rw [← hst]; exact h.c31 HS.out
    have f31 := h.st.fz 31
    rw [hst] at hG HST
    cases n with
    | zero =>
      have HRX : Hid (G = (2, m)) := by show _ = _; rw [← hG]; rfl
      have HM : Hid (Mx w0 mb s fo (.slice (some ⟨cb, co, none⟩) N cc) m wr) := h.x
      clear h ho hn hG hst HST
      go_wp2_with fail
      go_ret
      rw [HRX.out]
      exact ⟨rfl, HM.out⟩
    | succ n =>
      have hnM : n ≤ 100000 := by have := ho.wl; have := HK.out.hM; omega
      have dp : decide (((n + 1 : Nat) : Int) > 0) = true := decide_eq_true (by omega)
      have dp' : decide ((0 : Int) < ((n + 1 : Nat) : Int)) = true := decide_eq_true (by omega)
      have en : ((n + 1 : Nat) : Int) - 1 = (n : Int) := by omega
      obtain ⟨d, hd⟩ : ∃ d, insAt C m.t.nx = d := ⟨_, rfl⟩
      have hdC : C[m.t.nx]? = some d := by
        rw [← hd]; unfold insAt
        rw [List.getD_eq_getElem?_getD, List.getElem?_eq_getElem (by rw [HK.out.len]; exact hn)]; rfl
      have HDM : Hid (d ∈ C ∧ fitD N R d = true) := by
        have := HK.out.fit.at (n := m.t.nx) (by rw [HK.out.len]; exact hn)
        rw [hd, HK.out.len] at this
        exact ⟨List.mem_of_getElem? hdC, this⟩
      have HG : Hid (G = if d.op = 14 then (1, m.steps n) else if (doE N s fo d (m.steps n)).1 then goE C s fo n (doE N s fo d (m.steps n)).2 else (0, (doE N s fo d (m.steps n)).2)) := by
        show _ = _
        rw [← hG, goE, hd, HK.out.len]
      obtain ⟨W1, hW1⟩ : ∃ W, wr.setCell ⟨mb, 31, none⟩ (.int .i64 n) = W := ⟨_, rfl⟩
      have H1 : Hid (Mw w0 mb s fo (.slice (some ⟨cb, co, none⟩) N cc) (m.steps n) bv wv av W1) := by rw [← hW1]; exact h.setSt HS.out n
      obtain ⟨nx, hnx⟩ : ∃ n, m.t.nx = n := ⟨_, rfl⟩
      have HO : Hid (Okm N s.size R M (m.steps n) ∧ nx < N ∧ m.t.nx = nx ∧ m.st = n + 1) := ⟨ho.stp (by omega), by omega, hnx, hst⟩
      have HWL : Hid ((m.steps n).wt.length + (m.steps n).st < M ∧ (m.steps n).sd.length + (m.steps n).st < M + 1) := ⟨by show m.wt.length + n < M; have := ho.wl; omega, by show m.sd.length + n < M + 1; have := ho.al; omega⟩
      rw [hnx] at hdC
      have c26 : W1.cell? ⟨mb, 26, none⟩ = some (.int .i64 nx) := by rw [← hnx]; exact H1.out.c26 (m := m.steps n) HS.out
      have c29 := H1.out.c29 (m := m.steps n) HS.out
      have q1 := HK.out.cd.kp H1.out.kp
      have a0 := q1.cell8 hdC 0 _ rfl
      have a1 := q1.cell8 hdC 1 _ rfl
      have a2 := q1.cell8 hdC 2 _ rfl
      have a3 := q1.cell8 hdC 3 _ rfl
      have a4 := q1.cell8 hdC 4 _ rfl
      have a5 := q1.cell8 hdC 5 _ rfl
      have a6 := q1.cell8 hdC 6 _ rfl
      have a7 := q1.cell8 hdC 7 _ rfl
      simp only [Nat.add_zero] at a0
      have hxi : (0 : Int) ≤ (nx : Int) ∧ (nx : Int) < (N : Int) := by omega
      have hmb : mb < W1.heap.size := H1.out.st.lt
      have hcb : cb < W1.heap.size := cell_lt a0
      clear h ho hn hG hd hdC q1 hnx hst
      go_upto_region 3 with fail
      try rw [hW1]
      clear hW1 c31 f31
      go_region
      obtain ⟨bx, hbx⟩ : ∃ b, W1.heap.size = b := ⟨_, rfl⟩
      obtain ⟨W2, hW2⟩ : ∃ W, (W1.alloc (.cells #[.int .u8 d.op, .int .u8 d.c, .int .u64 d.set.a, .int .u64 d.set.b, .int .u64 d.set.c, .int .u64 d.set.d, .int .i64 d.x, .int .i64 d.y] 90)).drew = W := ⟨_, rfl⟩
      have H2 : Hid (Mw w0 mb s fo (.slice (some ⟨cb, co, none⟩) N cc) (m.steps n) bv wv av W2 ∧ Lc 90 bx d.cells W2) := by
        rw [← hW2, ← hbx]
        exact ⟨H1.out.kpp (kp_trans (kp_alloc _ _) (kp_drew _)), (Lc.new W1 d.cells 90).kp (kp_drew _)⟩
      rw [hW2, hbx]
      clear hW2 hbx hmb hcb a0 a1 a2 a3 a4 a5 a6 a7 c26 c29
      have b0 : W2.cell? ⟨bx, 0, none⟩ = some (.int .u8 d.op) := H2.out.2.at rfl
      by_cases h14 : d.op = 14
      · have HRX : Hid (G = (1, m.steps n)) := by show _ = _; rw [HG.out, if_pos h14]
        have i14 : ((d.op : Int) == 14) = true := by simp; omega
        have j14 : decide ((d.op : Int) = 14) = true := by simp; omega
        go_wp2_with fail
        go_ret
        rw [HRX.out]
        exact ⟨rfl, H2.out.1.x⟩
      · have i14 : ((d.op : Int) == 14) = false := by simp; omega
        have j14 : decide ((d.op : Int) = 14) = false := by simp; omega
        have b1 : W2.cell? ⟨bx, 1, none⟩ = some (.int .u8 d.c) := H2.out.2.at rfl
        have b2 : W2.cell? ⟨bx, 2, none⟩ = some (.int .u64 d.set.a) := H2.out.2.at rfl
        have b3 : W2.cell? ⟨bx, 3, none⟩ = some (.int .u64 d.set.b) := H2.out.2.at rfl
        have b4 : W2.cell? ⟨bx, 4, none⟩ = some (.int .u64 d.set.c) := H2.out.2.at rfl
        have b5 : W2.cell? ⟨bx, 5, none⟩ = some (.int .u64 d.set.d) := H2.out.2.at rfl
        have b6 : W2.cell? ⟨bx, 6, none⟩ = some (.int .i64 d.x) := H2.out.2.at rfl
        have b7 : W2.cell? ⟨bx, 7, none⟩ = some (.int .i64 d.y) := H2.out.2.at rfl
        obtain ⟨Q, hQ⟩ : ∃ Q, doE N s fo d (m.steps n) = Q := ⟨_, rfl⟩
        have HC : Hid (Calls Try.prog 52 #[.pointer (some ⟨mb, 0, none⟩), .agg #[.int .u8 d.op, .int .u8 d.c, .int .u64 d.set.a, .int .u64 d.set.b, .int .u64 d.set.c, .int .u64 d.set.d, .int .i64 d.x, .int .i64 d.y]] W2 fun e w' => e = .returned (.bool Q.1) ∧ Mx w0 mb s fo (.slice (some ⟨cb, co, none⟩) N cc) Q.2 w') := by
          have := do_m H2.out.1 HO.out.1 (by show m.t.nx < N; rw [HO.out.2.2.1]; exact HO.out.2.1) HK.out.hN HK.out.hz HK.out.hM HK.out.hR d (HK.out.ok d HDM.out.1) HDM.out.2
          rw [hQ] at this
          exact this
        have HQO : Hid (Okm N s.size R M Q.2 ∧ (Q.1 = true → Q.2.t.nx < N) ∧ Q.2.st = n) := by
          have o1 := HO.out.1
          have e1 := Okm.do (fo := fo) o1 (by show m.t.nx < N; rw [HO.out.2.2.1]; exact HO.out.2.1) HDM.out.2 HWL.out.1 HWL.out.2
          rw [hQ] at e1
          refine ⟨e1.1, e1.2, ?_⟩
          rw [← hQ, do_st]; rfl
        have HG2 : Hid (G = if Q.1 then goE C s fo n Q.2 else (0, Q.2)) := by show _ = _; rw [HG.out, if_neg h14, hQ]
        clear hQ h14
        obtain ⟨qb, qm⟩ := Q
        cases qb with
        | false =>
          have HRX : Hid (G = (0, qm)) := HG2.out
          go_wp2_with (go_at_call 52; refine Calls.mono HC.out ?_; rintro e w3 ⟨rfl, q⟩; have H3 : Hid (Mx w0 mb s fo (.slice (some ⟨cb, co, none⟩) N cc) qm w3) := q; clear q)
          go_ret
          rw [HRX.out]
          exact ⟨rfl, H3.out⟩
        | true =>
          have HRX : Hid (goE C s fo qm.st qm = G) := by show _ = _; have := HQO.out.2.2; simp only at this; rw [this, HG2.out]; rfl
          go_wp2_with (go_at_call 52; refine Calls.mono HC.out ?_; rintro e w3 ⟨rfl, ⟨bv3, wv3, av3, q⟩⟩; have H3 : Hid (Mw w0 mb s fo (.slice (some ⟨cb, co, none⟩) N cc) qm bv3 wv3 av3 w3) := q; clear q)
          go_roundw
          case rel => exact ⟨qm, bv3, wv3, av3, H3.out, HQO.out.1, HQO.out.2.1 (by trivial), HRX.out⟩
          case measure =>
            rw [HST.out, H3.out.stOf HQO.out.1.t.len, HQO.out.2.2]
            exact Nat.lt_succ_self _
end
end Go.Proofs.Ytibgpkkgaekakaa
namespace Go.Proofs.Ytibgpkkgaekakaa
open Go.ChangeShapes Go.WideShapes Go.ChangeAt Go.RowKit
set_option linter.unusedVariables false
set_option linter.unusedSimpArgs false
def nos (i : Nat) : List Int := List.replicate i (-1) ++ List.replicate (22 - i) 0
theorem nos_len {i : Nat} (h : i ≤ 22) : (nos i).length = 22 := by unfold nos; simp; omega
theorem nos_set {i : Nat} (h : i < 22) : (slv (nos i)).set i (.int .i64 (-1)) = slv (nos (i + 1)) := by
  unfold slv nos
  rw [← List.map_set (f := fun x => Value.int .i64 x), List.set_append_right _ _ (by simp)]
  congr 1
  simp only [List.length_replicate, Nat.sub_self]
  rw [show 22 - i = (22 - (i + 1)) + 1 by omega, List.replicate_succ, List.set_cons_zero, List.replicate_succ', List.append_assoc]
  rfl
theorem slv_one (ss : List Int) : ∀ v ∈ slv ss, v.oneCell' = true := by
  intro v hv
  unfold slv at hv
  obtain ⟨x, _, rfl⟩ := List.mem_map.1 hv
  rfl
theorem sets_full (l vs : List Value) (h : l.length = vs.length) : Go.Proofs.Ytibgpkkgaekakaa.sets l 0 vs = vs := by
  have := sets_mid vs [] l [] h
  simpa using this
set_option maxHeartbeats 4000000 in
set_option maxRecDepth 100000 in
theorem noSlots_m (w : World) : Calls Try.prog 50 #[] w fun e w' => e = .returned (.agg (slv (nos 22)).toArray) ∧ Kp w w' := by
  obtain ⟨dT, hT1, hT2⟩ := rowSlots
  have HT : Hid (Try.prog.underlying 69 = some dT ∧ dT.isRow = true) := ⟨hT1, hT2⟩
  clear hT1 hT2
  obtain ⟨m, hm⟩ : ∃ m, w.heap.size = m := ⟨_, rfl⟩
  obtain ⟨W1, hW1⟩ : ∃ W1, (w.alloc (.cells #[.int .i64 0, .int .i64 0, .int .i64 0, .int .i64 0, .int .i64 0, .int .i64 0, .int .i64 0, .int .i64 0, .int .i64 0, .int .i64 0, .int .i64 0, .int .i64 0, .int .i64 0, .int .i64 0, .int .i64 0, .int .i64 0, .int .i64 0, .int .i64 0, .int .i64 0, .int .i64 0, .int .i64 0, .int .i64 0] 69)).alloc (.cells #[.int .i64 0, .int .i64 0, .int .i64 0, .int .i64 0, .int .i64 0, .int .i64 0, .int .i64 0, .int .i64 0, .int .i64 0, .int .i64 0, .int .i64 0, .int .i64 0, .int .i64 0, .int .i64 0, .int .i64 0, .int .i64 0, .int .i64 0, .int .i64 0, .int .i64 0, .int .i64 0, .int .i64 0, .int .i64 0] 69) = W1 := ⟨_, rfl⟩
  have H1 : Hid (Lc 69 m (slv (nos 0)) W1 ∧ Lc 69 (m + 1) (slv (nos 0)) W1 ∧ Kp w W1) := by
    rw [← hW1, ← hm]
    refine ⟨(Lc.new w (slv (nos 0)) 69).kp (kp_alloc _ _), ?_, kp_trans (kp_alloc _ _) (kp_alloc _ _)⟩
    have := Lc.new (w.alloc (.cells #[.int .i64 0, .int .i64 0, .int .i64 0, .int .i64 0, .int .i64 0, .int .i64 0, .int .i64 0, .int .i64 0, .int .i64 0, .int .i64 0, .int .i64 0, .int .i64 0, .int .i64 0, .int .i64 0, .int .i64 0, .int .i64 0, .int .i64 0, .int .i64 0, .int .i64 0, .int .i64 0, .int .i64 0, .int .i64 0] 69)) (slv (nos 0)) 69
    rw [alloc_size] at this
    exact this
  have HMW : Hid (w.heap.size = m) := hm
  go_enter Try.func50, Try.ntmps50
  go_upto_region 3 with fail
  try rw [hW1]
  try rw [hm]
  clear hW1 hm
  go_loopw [3] (fun v3 wr => ∃ i : Nat, i ≤ 22 ∧ v3 = .int .i64 i ∧ Hid (Lc 69 m (slv (nos 0)) wr ∧ Lc 69 (m + 1) (slv (nos i)) wr ∧ Kp w wr)) (fun v3 _ => 22 - (intOf v3).toNat)
  case atStart => exact ⟨0, Nat.zero_le _, rfl, H1.out⟩
  case round =>
    obtain ⟨i, hi, rfl, hq⟩ := hrel
    have HQ : Hid (Lc 69 m (slv (nos 0)) wr ∧ Lc 69 (m + 1) (slv (nos i)) wr ∧ Kp w wr) := hq
    clear hq
    by_cases hlt : i < 22
    · have dl : decide ((i : Int) < 22) = true := decide_eq_true (by omega)
      obtain ⟨u, hu⟩ : ∃ u, (slv (nos i))[i]? = some u := ⟨_, List.getElem?_eq_getElem (by unfold slv; rw [List.length_map, nos_len hi]; exact hlt)⟩
      have cu : wr.cell? ⟨m + 1, i, none⟩ = some u := HQ.out.2.1.at hu
      have fu := HQ.out.2.1.fz i
      have hii : (0 : Int) ≤ (i : Int) ∧ (i : Int) < 22 := by omega
      have H2 : Hid (Lc 69 m (slv (nos 0)) (wr.setCell ⟨m + 1, i, none⟩ (.int .i64 (-1))) ∧ Lc 69 (m + 1) (slv (nos (i + 1))) (wr.setCell ⟨m + 1, i, none⟩ (.int .i64 (-1))) ∧ Kp w (wr.setCell ⟨m + 1, i, none⟩ (.int .i64 (-1)))) := by
        refine ⟨HQ.out.1.other (by omega), ?_, kp_new HQ.out.2.2 (by have := HMW.out; omega)⟩
        rw [← nos_set hlt]
        exact HQ.out.2.1.set i _
      clear hu
      go_upto_region 5 with fail
      clear dl
      go_wp2_with fail
      go_roundw
      case rel => exact ⟨i + 1, by omega, by go_num, H2.out⟩
      case measure => simp only [intOf]; omega
    · obtain rfl : i = 22 := by omega
      have HL : Hid ((slv (nos 22)).length = 22) := by show _ = _; unfold slv; rw [List.length_map, nos_len (Nat.le_refl _)]
      go_wp2_with (first | (refine wpList_load_box HQ.out.2.1 0 (slv (nos 22)) rfl 69 (.tmp 1) rfl rfl rfl dT HT.out.1 HT.out.2 sizeSlots ?_) | (refine wpList_store_box HQ.out.1 0 (slv (nos 22)) rfl 69 (.tmp 0) (.tmp 9) rfl rfl rfl (Nat.le_refl 22) sizeSlots (slv_one _) (l' := slv (nos 22)) (sets_full _ _ rfl) ?_; intro w3 q1 q2 q3; have H3 : Hid (Lc 69 m (slv (nos 22)) w3 ∧ Fr (On m) wr w3) := ⟨q1, q2⟩; clear q1 q2 q3))
      (try simp only [Exit.inBlock, Exit.then])
      refine bodyPost_ret (results_box1 rfl rfl H3.out.1 HT.out.1 HT.out.2 sizeSlots) rfl ?_
      exact ⟨rfl, HQ.out.2.2.trans (H3.out.2.below HQ.out.2.2.size fun k hk q => by unfold On at q; have := HMW.out; omega)⟩
end Go.Proofs.Ytibgpkkgaekakaa
namespace Go.Proofs.Ytibgpkkgaekakaa
open Go.ChangeShapes Go.WideShapes Go.ChangeAt Go.RowKit
set_option linter.unusedVariables false
set_option linter.unusedSimpArgs false
theorem wpList_buildTo {ops : Array Oper} {rest : List Oper} {o : Oper} {a : Act} {w : World} {Q : Exit → Act → World → Prop} (hg : o.guard = none) (t : TypeId) (parts : Array (Nat × Operand)) (ho : o.op = .build t parts)
    (vs : List (Nat × Value)) (hv : (parts.map fun (i, x) => (i, a.eval x)).toList = vs) (cells : Array Value) (hb : Try.prog.built t vs = some cells)
    (h : wpList Try.prog ops Q rest (a.put o.dst (.agg cells)) w) : wpList Try.prog ops Q (o :: rest) a w := by
  refine wpList_build hg t parts ho ?_ ?_
  · rw [hv, hb]; rfl
  · rw [hv, hb]; exact h
def ty0 (k : Nat) : Ty := ⟨nos 22, 0, k, 0⟩
theorem built_try (k : Nat) : Try.prog.built 71 [(0, .agg (slv (nos 22)).toArray), (2, .int .i64 k)] = some (tcells (ty0 k)).toArray := by kernel_rfl
theorem ty0_len (k : Nat) : (ty0 k).ss.length = 22 := rfl
theorem ty0_set (k : Nat) : (tcells (ty0 k)).set 0 (.int .i64 k) = tcells (tyE k) := rfl
set_option maxHeartbeats 4000000 in
set_option maxRecDepth 100000 in
theorem firstTry_m (k : Nat) (w : World) : Calls Try.prog 38 #[.int .i64 k] w fun e w' => e = .returned (.agg (tcells (tyE k)).toArray) ∧ Kp w w' := by
  obtain ⟨dT, hT1, hT2⟩ := rowTry
  have HT : Hid (Try.prog.underlying 71 = some dT ∧ dT.isRow = true) := ⟨hT1, hT2⟩
  clear hT1 hT2
  obtain ⟨b2, hb2⟩ : ∃ m, w.heap.size = m := ⟨_, rfl⟩
  have HB2 : Hid (w.heap.size = b2) := hb2
  obtain ⟨W1, hW1⟩ : ∃ W1, w.alloc (.cells #[.int .i64 0, .int .i64 0, .int .i64 0, .int .i64 0, .int .i64 0, .int .i64 0, .int .i64 0, .int .i64 0, .int .i64 0, .int .i64 0, .int .i64 0, .int .i64 0, .int .i64 0, .int .i64 0, .int .i64 0, .int .i64 0, .int .i64 0, .int .i64 0, .int .i64 0, .int .i64 0, .int .i64 0, .int .i64 0, .int .i64 0, .int .i64 0, .int .i64 0] 71) = W1 := ⟨_, rfl⟩
  have H1 : Hid (Kp w W1 ∧ Lc 71 b2 [.int .i64 0, .int .i64 0, .int .i64 0, .int .i64 0, .int .i64 0, .int .i64 0, .int .i64 0, .int .i64 0, .int .i64 0, .int .i64 0, .int .i64 0, .int .i64 0, .int .i64 0, .int .i64 0, .int .i64 0, .int .i64 0, .int .i64 0, .int .i64 0, .int .i64 0, .int .i64 0, .int .i64 0, .int .i64 0, .int .i64 0, .int .i64 0, .int .i64 0] W1) := by rw [← hW1, ← hb2]; exact ⟨kp_alloc _ _, Lc.new w [.int .i64 0, .int .i64 0, .int .i64 0, .int .i64 0, .int .i64 0, .int .i64 0, .int .i64 0, .int .i64 0, .int .i64 0, .int .i64 0, .int .i64 0, .int .i64 0, .int .i64 0, .int .i64 0, .int .i64 0, .int .i64 0, .int .i64 0, .int .i64 0, .int .i64 0, .int .i64 0, .int .i64 0, .int .i64 0, .int .i64 0, .int .i64 0, .int .i64 0] _⟩
  have HC : Hid (Calls Try.prog 50 #[] W1 fun e w' => e = .returned (.agg (slv (nos 22)).toArray) ∧ Kp W1 w') := noSlots_m W1
  obtain ⟨T0, hT0⟩ : ∃ T, tcells (ty0 k) = T := ⟨_, rfl⟩
  obtain ⟨SL, hSL⟩ : ∃ A, (slv (nos 22)).toArray = A := ⟨_, rfl⟩
  have HBT : Hid (Try.prog.built 71 [(0, .agg SL), (2, .int .i64 k)] = some T0.toArray) := by rw [← hSL, ← hT0]; exact built_try k
  rw [hSL] at HC
  have HL0 : Hid (T0.length = 25 ∧ (∀ v ∈ T0, v.oneCell' = true) ∧ T0.set 0 (.int .i64 k) = tcells (tyE k)) := by rw [← hT0]; exact ⟨tc_len (ty0_len k), tc_one _, ty0_set k⟩
  have HLE : Hid ((tcells (tyE k)).length = 25 ∧ (∀ v ∈ tcells (tyE k), v.oneCell' = true)) := ⟨tc_len (ty_ok (N := 1) (Z := k) (by omega) (Nat.le_refl _)).len, tc_one _⟩
  obtain ⟨TE, hTE⟩ : ∃ T, tcells (tyE k) = T := ⟨_, rfl⟩
  rw [hTE] at HL0 HLE ⊢
  clear hT0 hSL hTE
  go_enter Try.func38, Try.ntmps38
  go_upto_region 1 with fail
  try rw [hW1]
  try rw [hb2]
  clear hW1 hb2
  go_upto_region 2 with (first | (go_at_call 50; refine Calls.mono HC.out ?_; rintro e w2 ⟨rfl, q⟩; have H2 : Hid (Kp w w2 ∧ Lc 71 b2 [.int .i64 0, .int .i64 0, .int .i64 0, .int .i64 0, .int .i64 0, .int .i64 0, .int .i64 0, .int .i64 0, .int .i64 0, .int .i64 0, .int .i64 0, .int .i64 0, .int .i64 0, .int .i64 0, .int .i64 0, .int .i64 0, .int .i64 0, .int .i64 0, .int .i64 0, .int .i64 0, .int .i64 0, .int .i64 0, .int .i64 0, .int .i64 0, .int .i64 0] w2) := ⟨kp_trans H1.out.1 q, H1.out.2.kp q⟩; clear q; obtain ⟨b3, hb3⟩ : ∃ m, w2.heap.size = m := ⟨_, rfl⟩; obtain ⟨W3, hW3⟩ : ∃ W, w2.alloc (.cells #[.int .i64 0, .int .i64 0, .int .i64 0, .int .i64 0, .int .i64 0, .int .i64 0, .int .i64 0, .int .i64 0, .int .i64 0, .int .i64 0, .int .i64 0, .int .i64 0, .int .i64 0, .int .i64 0, .int .i64 0, .int .i64 0, .int .i64 0, .int .i64 0, .int .i64 0, .int .i64 0, .int .i64 0, .int .i64 0, .int .i64 0, .int .i64 0, .int .i64 0] 71) = W := ⟨_, rfl⟩; have H3 : Hid (Kp w W3 ∧ Lc 71 b2 [.int .i64 0, .int .i64 0, .int .i64 0, .int .i64 0, .int .i64 0, .int .i64 0, .int .i64 0, .int .i64 0, .int .i64 0, .int .i64 0, .int .i64 0, .int .i64 0, .int .i64 0, .int .i64 0, .int .i64 0, .int .i64 0, .int .i64 0, .int .i64 0, .int .i64 0, .int .i64 0, .int .i64 0, .int .i64 0, .int .i64 0, .int .i64 0, .int .i64 0] W3 ∧ Lc 71 b3 [.int .i64 0, .int .i64 0, .int .i64 0, .int .i64 0, .int .i64 0, .int .i64 0, .int .i64 0, .int .i64 0, .int .i64 0, .int .i64 0, .int .i64 0, .int .i64 0, .int .i64 0, .int .i64 0, .int .i64 0, .int .i64 0, .int .i64 0, .int .i64 0, .int .i64 0, .int .i64 0, .int .i64 0, .int .i64 0, .int .i64 0, .int .i64 0, .int .i64 0] W3 ∧ b2 < b3) := (by rw [← hW3, ← hb3]; exact ⟨kp_trans H2.out.1 (kp_alloc _ _), H2.out.2.kp (kp_alloc _ _), Lc.new w2 [.int .i64 0, .int .i64 0, .int .i64 0, .int .i64 0, .int .i64 0, .int .i64 0, .int .i64 0, .int .i64 0, .int .i64 0, .int .i64 0, .int .i64 0, .int .i64 0, .int .i64 0, .int .i64 0, .int .i64 0, .int .i64 0, .int .i64 0, .int .i64 0, .int .i64 0, .int .i64 0, .int .i64 0, .int .i64 0, .int .i64 0, .int .i64 0, .int .i64 0] _, H2.out.2.lt⟩)) | (refine wpList_buildTo rfl 71 _ rfl [(0, .agg SL), (2, .int .i64 k)] (by rw [Array.toList_map]; rfl) T0.toArray HBT.out ?_) | (refine wpList_store_box H3.out.2.2.1 0 T0 rfl 71 (.tmp 3) (.tmp 6) rfl rfl rfl (by rw [HL0.out.1]; decide) (by rw [HL0.out.1]; exact sizeTry) HL0.out.2.1 (sets_full _ _ (by rw [HL0.out.1]; rfl)) ?_; intro W4 q1 q2 q3; have H4 : Hid (Kp w W4 ∧ Lc 71 b2 [.int .i64 0, .int .i64 0, .int .i64 0, .int .i64 0, .int .i64 0, .int .i64 0, .int .i64 0, .int .i64 0, .int .i64 0, .int .i64 0, .int .i64 0, .int .i64 0, .int .i64 0, .int .i64 0, .int .i64 0, .int .i64 0, .int .i64 0, .int .i64 0, .int .i64 0, .int .i64 0, .int .i64 0, .int .i64 0, .int .i64 0, .int .i64 0, .int .i64 0] W4 ∧ Lc 71 b3 T0 W4) := ⟨H3.out.1.trans (q2.below H3.out.1.size fun j hj q => by unfold On at q; have := HB2.out; have := H3.out.2.2.2; omega), H3.out.2.1.fr q2 (fun q => by unfold On at q; have := H3.out.2.2.2; omega), q1⟩; clear q1 q2 q3))
  clear hb3 hW3
  obtain ⟨y0, e0⟩ : ∃ y, T0[0]? = some y := ⟨_, List.getElem?_eq_getElem (by rw [HL0.out.1]; omega)⟩
  have c0 : W4.cell? ⟨b3, 0, none⟩ = some y0 := H4.out.2.2.at e0
  have f0 := H4.out.2.2.fz 0
  clear e0
  go_upto_region 3 with fail
  obtain ⟨W5, hW5⟩ : ∃ W, W4.setCell ⟨b3, 0, none⟩ (.int .i64 k) = W := ⟨_, rfl⟩
  have H5 : Hid (Kp w W5 ∧ Lc 71 b2 [.int .i64 0, .int .i64 0, .int .i64 0, .int .i64 0, .int .i64 0, .int .i64 0, .int .i64 0, .int .i64 0, .int .i64 0, .int .i64 0, .int .i64 0, .int .i64 0, .int .i64 0, .int .i64 0, .int .i64 0, .int .i64 0, .int .i64 0, .int .i64 0, .int .i64 0, .int .i64 0, .int .i64 0, .int .i64 0, .int .i64 0, .int .i64 0, .int .i64 0] W5 ∧ Lc 71 b3 TE W5) := by
    rw [← hW5]
    refine ⟨kp_new H4.out.1 (by have := HB2.out; have := H3.out.2.2.2; omega), H4.out.2.1.other (by have := H3.out.2.2.2; omega), ?_⟩
    rw [← HL0.out.2.2]
    exact H4.out.2.2.set 0 _
  rw [hW5]
  clear hW5 c0 f0
  go_wp2_with (first | (refine wpList_load_box H5.out.2.2 0 TE rfl 71 (.tmp 3) rfl rfl (by rw [List.drop_zero, List.take_length]) dT HT.out.1 HT.out.2 (by rw [HLE.out.1]; exact sizeTry) ?_) | (refine wpList_store_box H5.out.2.1 0 TE rfl 71 (.tmp 2) (.tmp 10) rfl rfl rfl (by rw [HLE.out.1]; decide) (by rw [HLE.out.1]; exact sizeTry) HLE.out.2 (sets_full _ _ (by rw [HLE.out.1]; rfl)) ?_; intro W6 q1 q2 q3; have H6 : Hid (Lc 71 b2 TE W6 ∧ Kp w W6) := ⟨q1, H5.out.1.trans (q2.below H5.out.1.size fun j hj q => by unfold On at q; have := HB2.out; omega)⟩; clear q1 q2 q3))
  (try simp only [Exit.inBlock, Exit.then])
  refine bodyPost_ret (results_box1 rfl rfl H6.out.1 HT.out.1 HT.out.2 (by rw [HLE.out.1]; exact sizeTry)) rfl ?_
  exact ⟨rfl, H6.out.2⟩
end Go.Proofs.Ytibgpkkgaekakaa
namespace Go.Proofs.Ytibgpkkgaekakaa
open Go.ChangeShapes Go.WideShapes Go.ChangeAt Go.RowKit
set_option linter.unusedVariables false
set_option linter.unusedSimpArgs false
theorem callStep {P : Program} {ops : Array Oper} {K : Act → World → Prop} {Q : Exit → Act → World → Prop} {E : Prop} (d : Tmp) (f : FuncId) {o : Oper} {fn : Func} {a : Act} {w : World} {xs : Array Operand} {ats : Array TypeId} {vals : Array Value}
    (hop : o.op = .call { callee := .value (.func f), args := xs, argTypes := ats }) (hd : o.dst = some d) (hg : o.guard = none) (hv : xs.map a.eval = vals)
    (hf : P.funcs[f]? = some fn) (hn : (fn.name == "runtime.NumGoroutine") = false) (hb : fn.body.isNone = false)
    (h : Calls P f vals w fun e w' => ∃ v, e = .returned v ∧ K (a.put (some d) v) w') : if Region.wanted o (yielded ops a.tmps) = true then Oper.wp P o a w K Q else E := by
  have hw : Region.wanted o (yielded ops a.tmps) = true := by simp [Region.wanted, hg]
  rw [if_pos hw]
  obtain ⟨dst, op, type, pos, after, guard⟩ := o
  simp only at hop hd hg
  subst hop; subst hd; subst hg
  unfold Oper.wp
  rw [execOp_call_go, show (#[] ++ xs.map a.eval ++ #[]) = vals by simp [hv], run_callGo vals w hf hn hb]
  simp only [Oper.upon]
  refine Calls.mono h ?_
  rintro e w' ⟨v, rfl, hK⟩
  exact hK
section
variable {w0 : World} {mb : Nat} {s : ByteArray} {fo : Bool} {cv bv wv av : Value} {m : Mc} {w w1 w2 : World} {N R M : Nat}
def Ti (w0 : World) (mb : Nat) (s : ByteArray) (fo : Bool) (cv : Value) (C : List Ins) (N R M : Nat) (G : Nat × Mc) (w : World) : Prop :=
  ∃ m bv wv av f, Mw w0 mb s fo cv m bv wv av w ∧ Okm N s.size R M m ∧ m.st + 1 < f ∧ tryE C s fo f m = G
set_option maxHeartbeats 8000000 in
set_option maxRecDepth 100000 in
theorem tryAt_m {ca : Option Addr} {cc : Nat} {C : List Ins} (kn : Kn w0 ca N cc C s R M) (h : Mw w0 mb s fo (.slice ca N cc) m bv wv av w) (ho : Okm N s.size R M m) (ha : m.sd = []) {k : Nat} (hk : k ≤ s.size) :
    Calls Try.prog 26 #[.pointer (some ⟨mb, 0, none⟩), .int .i64 k] w fun e w' => e = .returned (.int .u8 (atE C s fo k m).1) ∧ Mx w0 mb s fo (.slice ca N cc) (atE C s fo k m).2 w' := by
  have hs := ho.t.len
  obtain ⟨dT, hT1, hT2⟩ := rowTry
  obtain ⟨i9, hi9, z0, z1, z2⟩ := info_parts infoTry
  obtain ⟨aa, ac, rfl, v1, v2⟩ := owns_form h.ra
  obtain ⟨NA, hNA⟩ : ∃ k, m.sd.length = k := ⟨_, rfl⟩
  have hNA0 : NA ≤ 1 := by rw [← hNA, ha]; exact Nat.zero_le _
  simp only [hNA] at h v1
  obtain ⟨G, hG⟩ : ∃ G, atE C s fo k m = G := ⟨_, rfl⟩
  rw [hG]
  obtain ⟨T, hT⟩ : ∃ T, tyE k = T := ⟨_, rfl⟩
  have HT22 : Hid (T.ss.length = 22) := by rw [← hT]; exact (ty_ok (N := 1) (Z := k) (by omega) (Nat.le_refl _)).len
  have HK : Hid (Kn w0 ca N cc C s R M) := kn
  have HOK : Hid (Okm N s.size R M { m with sd := m.sd ++ [T] }) := by rw [← hT]; exact ho.first kn.pos hk ha (by have := ho.wl; omega)
  have HG : Hid (tryE C s fo (m.st + 2) { m with sd := m.sd ++ [T] } = G) := by rw [← hT]; exact hG
  have HC : Hid (∀ z, Calls Try.prog 38 #[.int .i64 k] z fun e w' => e = .returned (.agg (tcells T).toArray) ∧ Kp z w') := by intro z; have := firstTry_m k z; rw [hT] at this; exact this
  have HH : Hid (Mw w0 mb s fo (.slice ca N cc) m bv wv (.slice aa NA ac) w ∧ m.t.ss.length = 22 ∧ m.sd.length = NA) := ⟨h, hs, hNA⟩
  have HI : Hid (Try.prog.info? 71 = some i9 ∧ i9.zero = some (.agg #[.int .i64 0, .int .i64 0, .int .i64 0, .int .i64 0, .int .i64 0, .int .i64 0, .int .i64 0, .int .i64 0, .int .i64 0, .int .i64 0, .int .i64 0, .int .i64 0, .int .i64 0, .int .i64 0, .int .i64 0, .int .i64 0, .int .i64 0, .int .i64 0, .int .i64 0, .int .i64 0, .int .i64 0, .int .i64 0, .int .i64 0, .int .i64 0, .int .i64 0]) ∧ i9.size = 25 ∧ i9.bytes = 200) := ⟨hi9, z0, z1, z2⟩
  have HTL : Hid ((tcells T).length = 1 * 25) := tc_len HT22.out
  have HTS : Hid ((tcells T).toArray.size = 25) := by show _ = _; rw [List.size_toArray]; exact tc_len HT22.out
  have c30 := h.c30 hs
  unfold maxLen at v2
  clear h ho hs hNA hG hT hi9 z0 z1 z2 hT1 hT2 ha kn
  go_enter Try.func26, Try.ntmps26
  go_upto_region 1 with fail
  refine wp_region_noPanic ?_
  refine wp_region_held_drew (S := fun _ => True) (by kernel_rfl) (trivial) (fun hHeld => ?_)
  refine takeAt 0 (some 6) ?_ rfl rfl (by kernel_rfl) (by kernel_rfl) (by kernel_rfl) (fun _ _ _ h => h) (Or.inl ⟨by rfl, ?_⟩) hHeld ?_
  rotate_left
  · intro w hSw
    go_simp <;> with_reducible rfl
  try simp only [Act.put, List.setIfInBounds_toArray, List.set_cons_zero, List.set_cons_succ]
  refine takeAt 1 (some 7) ?_ rfl rfl (by kernel_rfl) (by kernel_rfl) (by kernel_rfl) (fun _ _ _ h => h) (Or.inl ⟨by rfl, ?_⟩) hHeld ?_
  rotate_left
  · intro w hSw
    go_simp <;> with_reducible rfl
  try simp only [Act.put, List.setIfInBounds_toArray, List.set_cons_zero, List.set_cons_succ]
  refine takeAt 2 (some 8) ?_ rfl rfl (by kernel_rfl) (by kernel_rfl) (by kernel_rfl) (fun _ _ _ h => h) (Or.inl ⟨by rfl, ?_⟩) hHeld ?_
  rotate_left
  · intro w hSw
    go_simp <;> with_reducible rfl
  try simp only [Act.put, List.setIfInBounds_toArray, List.set_cons_zero, List.set_cons_succ]
  refine takeAt 3 (some 9) ?_ rfl rfl (by kernel_rfl) (by kernel_rfl) (by kernel_rfl) (fun _ _ _ h => h) (Or.inl ⟨by rfl, ?_⟩) hHeld ?_
  rotate_left
  · intro w hSw
    go_simp <;> with_reducible rfl
  try simp only [Act.put, List.setIfInBounds_toArray, List.set_cons_zero, List.set_cons_succ]
  refine takeAt 5 (some 11) ?_ rfl rfl (by kernel_rfl) (by kernel_rfl) (by kernel_rfl) (fun _ _ _ h => h) (Or.inl ⟨by rfl, ?_⟩) hHeld ?_
  rotate_left
  · intro w hSw
    go_simp <;> with_reducible rfl
  try simp only [Act.put, List.setIfInBounds_toArray, List.set_cons_zero, List.set_cons_succ]
  refine wpAnyH_ready (rs := [4, 6]) (by kernel_rfl) (by simp) ?_
  refine AllReadyH.cons rfl (fun K hK => ?_) (AllReadyH.cons rfl (fun K hK => ?_) AllReadyH.nil)
  · have cl := (HH.out.1.kpp (kp_drew _)).c30 HH.out.2.1
    go_simp
    refine hK.out _ _ trivial (fun hHeld => ?_)
    clear hK K
    try simp only [Act.put, List.setIfInBounds_toArray, List.set_cons_zero, List.set_cons_succ]
    clear cl
    refine wpAnyH_ready (rs := [6]) (by kernel_rfl) (by simp) ?_
    refine AllReadyH.cons rfl (fun K hK => ?_) AllReadyH.nil
    refine callStep 12 38 (vals := #[.int .i64 k]) rfl rfl rfl (by simp [Act.eval]) Try.func38 (by kernel_rfl) (by kernel_rfl) ?_
    refine Calls.mono (HC.out _) ?_
    rintro e w2 ⟨rfl, q⟩
    have H2 : Hid (Kp w w2) := kp_trans (kp_drew _) q
    clear q
    refine ⟨_, rfl, ?_⟩
    refine hK.out _ _ trivial (fun hHeld => ?_)
    clear hK K
    try simp only [Act.put, List.setIfInBounds_toArray, List.set_cons_zero, List.set_cons_succ]
    refine wpAnyH_ready (rs := [7]) (by kernel_rfl) (by simp) ?_
    refine AllReadyH.cons rfl (fun K hK => ?_) AllReadyH.nil
    rw [if_pos (by rfl)]
    refine wp_buildSlice 72 71 1 _ rfl (tcells T).toArray i9 _ Try.underlying72 HI.out.1 HI.out.2.1 (by rw [HI.out.2.2.1]; decide) (by rw [HI.out.2.2.1]; decide) (by rw [HI.out.2.2.1]; rw [Array.toList_map]; show Instr.fill _ _ [(0, Value.agg (tcells T).toArray)] = _; refine fill_one _ _ 25 HTS.out ?_; simp) ?_
    obtain ⟨bn, hbn⟩ : ∃ b, (w2).heap.size = b := ⟨_, rfl⟩
    obtain ⟨WN, hWN⟩ : ∃ W, (w2).alloc (.cells (tcells T).toArray 71) = W := ⟨_, rfl⟩
    have HN : Hid (Kp w WN ∧ Lc 71 bn (tcells T) WN ∧ WN.heap.size = bn + 1 ∧ w0.heap.size ≤ WN.heap.size) := by
      rw [← hWN, ← hbn]
      have k1 := kp_trans H2.out (kp_alloc (w2) (.cells (tcells T).toArray 71))
      exact ⟨k1, Lc.new _ _ _, alloc_size _ _, Nat.le_trans HH.out.1.kp.size k1.size⟩
    rw [hWN, hbn]
    clear hWN hbn
    refine hK.out _ _ trivial (fun hHeld => ?_)
    clear hK K
    try simp only [Act.put, List.setIfInBounds_toArray, List.set_cons_zero, List.set_cons_succ]
    have HOW : Hid (WN.ownsRow w0.heap.size 71 25 (.slice aa NA ac) NA (flatT m.sd)) := by have := row_kp HH.out.1.ra HN.out.1; rw [HH.out.2.2] at this; exact this
    have HNEW : Hid (∀ j u, (tcells T)[j]? = some u → WN.cell? ((⟨bn, 0, none⟩ : Addr).add j) = some u) := by
      intro j u hj
      rw [Addr.add_lit, Nat.zero_add]
      exact HN.out.2.1.at hj
    refine wpAnyH_ready (rs := [8]) (by kernel_rfl) (by simp) ?_
    refine AllReadyH.cons rfl (fun K1 hK => ?_) AllReadyH.nil
    refine step_append_lies _ rfl (.tmp 10) (.tmp 13) 72 rfl w0.heap.size 71 i9 _ 25 200 Try.underlying72 HI.out.1 HI.out.2.1 HI.out.2.2.1 HI.out.2.2.2 rfl (by decide) (.slice aa NA ac) NA (flatT m.sd) rfl HOW.out ⟨bn, 0, none⟩ 1 1 (tcells T) rfl HTL.out HNEW.out (tc_one _) (by omega) (by unfold maxLen; omega) (by omega) HN.out.2.2.2 (bn + 1) HN.out.2.2.1 ?_
    intro g cp w5 hown hgrow hat hlt
    obtain ⟨⟨q0, qf⟩, hF, hO⟩ := HH.out.1.growA HH.out.2.1 T HN.out.1 HH.out.2.2 hown hgrow
    have HF : Hid (Mw w0 mb s fo (.slice ca N cc) { m with sd := m.sd ++ [T] } bv wv (.slice (some ⟨g, 0, none⟩) (NA + 1) cp) (w5.setCell ⟨mb, 30, none⟩ (.slice (some ⟨g, 0, none⟩) (NA + 1) cp))) := hF
    clear hown hgrow hat hlt hF hO
    change K1 (Act.put _ (some 14) (.slice (some ⟨g, 0, none⟩) (NA + 1) cp)) w5
    refine hK.out _ _ trivial (fun hHeld => ?_)
    clear hK K1
    try simp only [Act.put, List.setIfInBounds_toArray, List.set_cons_zero, List.set_cons_succ]
    refine takeAt 9 (some 15) ?_ rfl rfl (by kernel_rfl) (by kernel_rfl) (by kernel_rfl) (fun _ _ _ h => h) (Or.inl ⟨by rfl, ?_⟩) hHeld ?_
    rotate_left
    · intro w hSw
      go_simp <;> with_reducible rfl
    try simp only [Act.put, List.setIfInBounds_toArray, List.set_cons_zero, List.set_cons_succ]
    refine takeAt 10 (some 16) ?_ rfl rfl (by kernel_rfl) (by kernel_rfl) (by kernel_rfl) (fun _ _ _ h => h) (Or.inl ⟨by rfl, ?_⟩) hHeld ?_
    rotate_left
    · intro w hSw
      go_simp <;> with_reducible rfl
    try simp only [Act.put, List.setIfInBounds_toArray, List.set_cons_zero, List.set_cons_succ]
    refine wpAnyH_ready (rs := [11]) (by kernel_rfl) (by simp) ?_
    refine AllReadyH.cons rfl (fun K hK => ?_) AllReadyH.nil
    go_simp
    refine hK.out _ _ trivial (fun hHeld => ?_)
    clear hK K
    try simp only [Act.put, List.setIfInBounds_toArray, List.set_cons_zero, List.set_cons_succ]
    refine wpAnyH_done (by kernel_rfl) ?_ _
    refine NoPanic.normal ?_
    have H0 : Hid (Ti w0 mb s fo (.slice ca N cc) C N R M G (w5.setCell ⟨mb, 30, none⟩ (.slice (some ⟨g, 0, none⟩) (NA + 1) cp))) := ⟨_, _, _, _, m.st + 2, HF.out, HOK.out, Nat.lt_succ_self _, HG.out⟩
    obtain ⟨W9, hW9⟩ : ∃ W, w5.setCell ⟨mb, 30, none⟩ (.slice (some ⟨g, 0, none⟩) (NA + 1) cp) = W := ⟨_, rfl⟩
    rw [hW9] at H0 ⊢
    clear hW9 HF q0 qf HOW HNEW HN H2 HC
    go_wp2_with fail
    go_loopw [] (fun wr => Hid (Ti w0 mb s fo (.slice ca N cc) C N R M G wr)) (fun wr => stOf mb wr)
    case atStart => exact H0
    case round =>
      obtain ⟨m1, bv1, wv1, av1, f, h, ho, hfu, hG⟩ := hrel.out
      clear hrel
      obtain ⟨f, rfl⟩ : ∃ f', f = f' + 1 := ⟨f - 1, by omega⟩
      have HST : Hid (stOf mb wr = m1.st) := h.stOf ho.t.len
      rcases List.eq_nil_or_concat m1.sd with hsd | ⟨l, t, hsd⟩
      · have HRX : Hid (G = (0, m1)) := by
          show _ = _
          rw [← hG, tryE]
          have : resE m1 = none := by unfold resE; rw [hsd]; rfl
          rw [this]
        have HR : Hid (Calls Try.prog 39 #[.pointer (some ⟨mb, 0, none⟩)] wr fun e w' => e = .returned (.bool false) ∧ Mx w0 mb s fo (.slice ca N cc) m1 w') := resume_no h ho.t.len hsd
        clear h ho hG hsd HST
        go_wp2_with (go_at_call 39; refine Calls.mono HR.out ?_; rintro e w6 ⟨rfl, q⟩; have H6 : Hid (Mx w0 mb s fo (.slice ca N cc) m1 w6) := q; clear q)
        go_ret
        rw [HRX.out]
        exact ⟨rfl, H6.out⟩
      · rw [List.concat_eq_append] at hsd
        obtain ⟨m2, hm2⟩ : ∃ m2, backE t.ch { m1 with t := t, sd := l } = m2 := ⟨_, rfl⟩
        have hre : resE m1 = some m2 := by unfold resE; rw [hsd]; simp [hm2]
        have HR : Hid (Calls Try.prog 39 #[.pointer (some ⟨mb, 0, none⟩)] wr fun e w' => e = .returned (.bool true) ∧ Mx w0 mb s fo (.slice ca N cc) m2 w') := by rw [← hm2]; exact resume_ok h ho HK.out.hR HK.out.hM hsd
        obtain ⟨r1, r2, r3, r4, r5⟩ := ho.res hre
        have HO2 : Hid (Okm N s.size R M m2 ∧ m2.t.nx < N ∧ m2.st = m1.st ∧ m1.st < f) := ⟨r1, r2, r3, by omega⟩
        obtain ⟨Q, hQ⟩ : ∃ Q, goE C s fo m2.st m2 = Q := ⟨_, rfl⟩
        have HQ : Hid (goE C s fo m2.st m2 = Q) := hQ
        have HRX : Hid (G = if Q.1 = 0 then tryE C s fo f Q.2 else Q) := by
          show _ = _
          rw [← hG, tryE, hre]
          simp only [hQ]
        have HQO : Hid (Okm N s.size R M Q.2 ∧ (Q.1 = 0 → Q.2.st < m2.st)) := by
          have := go_ok (s := s) (fo := fo) (M := M) HK.out.fit m2.st m2 (by rw [HK.out.len]; exact r1) (by rw [HK.out.len]; exact r2) rfl
          rw [hQ, HK.out.len] at this
          exact ⟨this.1, this.2.2.1⟩
        clear h ho hG hsd hre hm2 r1 r2 r3 r4 r5 hQ
        go_upto_region 3 with (go_at_call 39; refine Calls.mono HR.out ?_; rintro e w6 ⟨rfl, ⟨bv6, wv6, av6, q⟩⟩; have H6 : Hid (Mw w0 mb s fo (.slice ca N cc) m2 bv6 wv6 av6 w6) := q; clear q)
        have HGO : Hid (Calls Try.prog 40 #[.pointer (some ⟨mb, 0, none⟩)] w6 fun e w' => e = .returned (.int .u8 Q.1) ∧ Mx w0 mb s fo (.slice ca N cc) Q.2 w') := by
          have := goOn_m HK.out H6.out HO2.out.1 HO2.out.2.1
          rw [HQ.out] at this
          exact this
        obtain ⟨qn, qm⟩ := Q
        by_cases hq0 : qn = 0
        · subst hq0
          go_wp2_with (go_at_call 40; refine Calls.mono HGO.out ?_; rintro e w7 ⟨rfl, ⟨bv7, wv7, av7, q⟩⟩; have H7 : Hid (Mw w0 mb s fo (.slice ca N cc) qm bv7 wv7 av7 w7) := q; clear q)
          go_roundw
          case rel =>
            refine ⟨qm, bv7, wv7, av7, f, H7.out, HQO.out.1, ?_, HRX.out.symm⟩
            have := HQO.out.2 (by trivial); have := HO2.out.2.2; (try simp only at *); omega
          case measure =>
            rw [HST.out, H7.out.stOf HQO.out.1.t.len]
            have := HQO.out.2 (by trivial); have := HO2.out.2.2; (try simp only at *); omega
        · have iq : ((qn : Int) != 0) = true := by simp; omega
          have iq' : ((qn : Int) == 0) = false := by simp; omega
          have HRY : Hid (G = (qn, qm)) := by show _ = _; rw [HRX.out, if_neg hq0]
          go_wp2_with (go_at_call 40; refine Calls.mono HGO.out ?_; rintro e w7 ⟨rfl, q⟩; have H7 : Hid (Mx w0 mb s fo (.slice ca N cc) qm w7) := q; clear q)
          go_ret
          rw [HRY.out]
          exact ⟨rfl, H7.out⟩
  · refine callStep 12 38 (vals := #[.int .i64 k]) rfl rfl rfl (by simp [Act.eval]) Try.func38 (by kernel_rfl) (by kernel_rfl) ?_
    refine Calls.mono (HC.out _) ?_
    rintro e w2 ⟨rfl, q⟩
    have H2 : Hid (Kp w w2) := kp_trans (kp_drew _) q
    clear q
    refine ⟨_, rfl, ?_⟩
    refine hK.out _ _ trivial (fun hHeld => ?_)
    clear hK K
    try simp only [Act.put, List.setIfInBounds_toArray, List.set_cons_zero, List.set_cons_succ]
    refine wpAnyH_ready (rs := [4, 7]) (by kernel_rfl) (by simp) ?_
    refine AllReadyH.cons rfl (fun K hK => ?_) (AllReadyH.cons rfl (fun K hK => ?_) AllReadyH.nil)
    · have cl := (HH.out.1.kpp H2.out).c30 HH.out.2.1
      go_simp
      refine hK.out _ _ trivial (fun hHeld => ?_)
      clear hK K
      try simp only [Act.put, List.setIfInBounds_toArray, List.set_cons_zero, List.set_cons_succ]
      clear cl
      refine wpAnyH_ready (rs := [7]) (by kernel_rfl) (by simp) ?_
      refine AllReadyH.cons rfl (fun K hK => ?_) AllReadyH.nil
      rw [if_pos (by rfl)]
      refine wp_buildSlice 72 71 1 _ rfl (tcells T).toArray i9 _ Try.underlying72 HI.out.1 HI.out.2.1 (by rw [HI.out.2.2.1]; decide) (by rw [HI.out.2.2.1]; decide) (by rw [HI.out.2.2.1]; rw [Array.toList_map]; show Instr.fill _ _ [(0, Value.agg (tcells T).toArray)] = _; refine fill_one _ _ 25 HTS.out ?_; simp) ?_
      obtain ⟨bn, hbn⟩ : ∃ b, (w2).heap.size = b := ⟨_, rfl⟩
      obtain ⟨WN, hWN⟩ : ∃ W, (w2).alloc (.cells (tcells T).toArray 71) = W := ⟨_, rfl⟩
      have HN : Hid (Kp w WN ∧ Lc 71 bn (tcells T) WN ∧ WN.heap.size = bn + 1 ∧ w0.heap.size ≤ WN.heap.size) := by
        rw [← hWN, ← hbn]
        have k1 := kp_trans H2.out (kp_alloc (w2) (.cells (tcells T).toArray 71))
        exact ⟨k1, Lc.new _ _ _, alloc_size _ _, Nat.le_trans HH.out.1.kp.size k1.size⟩
      rw [hWN, hbn]
      clear hWN hbn
      refine hK.out _ _ trivial (fun hHeld => ?_)
      clear hK K
      try simp only [Act.put, List.setIfInBounds_toArray, List.set_cons_zero, List.set_cons_succ]
      have HOW : Hid (WN.ownsRow w0.heap.size 71 25 (.slice aa NA ac) NA (flatT m.sd)) := by have := row_kp HH.out.1.ra HN.out.1; rw [HH.out.2.2] at this; exact this
      have HNEW : Hid (∀ j u, (tcells T)[j]? = some u → WN.cell? ((⟨bn, 0, none⟩ : Addr).add j) = some u) := by
        intro j u hj
        rw [Addr.add_lit, Nat.zero_add]
        exact HN.out.2.1.at hj
      refine wpAnyH_ready (rs := [8]) (by kernel_rfl) (by simp) ?_
      refine AllReadyH.cons rfl (fun K1 hK => ?_) AllReadyH.nil
      refine step_append_lies _ rfl (.tmp 10) (.tmp 13) 72 rfl w0.heap.size 71 i9 _ 25 200 Try.underlying72 HI.out.1 HI.out.2.1 HI.out.2.2.1 HI.out.2.2.2 rfl (by decide) (.slice aa NA ac) NA (flatT m.sd) rfl HOW.out ⟨bn, 0, none⟩ 1 1 (tcells T) rfl HTL.out HNEW.out (tc_one _) (by omega) (by unfold maxLen; omega) (by omega) HN.out.2.2.2 (bn + 1) HN.out.2.2.1 ?_
      intro g cp w5 hown hgrow hat hlt
      obtain ⟨⟨q0, qf⟩, hF, hO⟩ := HH.out.1.growA HH.out.2.1 T HN.out.1 HH.out.2.2 hown hgrow
      have HF : Hid (Mw w0 mb s fo (.slice ca N cc) { m with sd := m.sd ++ [T] } bv wv (.slice (some ⟨g, 0, none⟩) (NA + 1) cp) (w5.setCell ⟨mb, 30, none⟩ (.slice (some ⟨g, 0, none⟩) (NA + 1) cp))) := hF
      clear hown hgrow hat hlt hF hO
      change K1 (Act.put _ (some 14) (.slice (some ⟨g, 0, none⟩) (NA + 1) cp)) w5
      refine hK.out _ _ trivial (fun hHeld => ?_)
      clear hK K1
      try simp only [Act.put, List.setIfInBounds_toArray, List.set_cons_zero, List.set_cons_succ]
      refine takeAt 9 (some 15) ?_ rfl rfl (by kernel_rfl) (by kernel_rfl) (by kernel_rfl) (fun _ _ _ h => h) (Or.inl ⟨by rfl, ?_⟩) hHeld ?_
      rotate_left
      · intro w hSw
        go_simp <;> with_reducible rfl
      try simp only [Act.put, List.setIfInBounds_toArray, List.set_cons_zero, List.set_cons_succ]
      refine takeAt 10 (some 16) ?_ rfl rfl (by kernel_rfl) (by kernel_rfl) (by kernel_rfl) (fun _ _ _ h => h) (Or.inl ⟨by rfl, ?_⟩) hHeld ?_
      rotate_left
      · intro w hSw
        go_simp <;> with_reducible rfl
      try simp only [Act.put, List.setIfInBounds_toArray, List.set_cons_zero, List.set_cons_succ]
      refine wpAnyH_ready (rs := [11]) (by kernel_rfl) (by simp) ?_
      refine AllReadyH.cons rfl (fun K hK => ?_) AllReadyH.nil
      go_simp
      refine hK.out _ _ trivial (fun hHeld => ?_)
      clear hK K
      try simp only [Act.put, List.setIfInBounds_toArray, List.set_cons_zero, List.set_cons_succ]
      refine wpAnyH_done (by kernel_rfl) ?_ _
      refine NoPanic.normal ?_
      have H0 : Hid (Ti w0 mb s fo (.slice ca N cc) C N R M G (w5.setCell ⟨mb, 30, none⟩ (.slice (some ⟨g, 0, none⟩) (NA + 1) cp))) := ⟨_, _, _, _, m.st + 2, HF.out, HOK.out, Nat.lt_succ_self _, HG.out⟩
      obtain ⟨W9, hW9⟩ : ∃ W, w5.setCell ⟨mb, 30, none⟩ (.slice (some ⟨g, 0, none⟩) (NA + 1) cp) = W := ⟨_, rfl⟩
      rw [hW9] at H0 ⊢
      clear hW9 HF q0 qf HOW HNEW HN H2 HC
      go_wp2_with fail
      go_loopw [] (fun wr => Hid (Ti w0 mb s fo (.slice ca N cc) C N R M G wr)) (fun wr => stOf mb wr)
      case atStart => exact H0
      case round =>
        obtain ⟨m1, bv1, wv1, av1, f, h, ho, hfu, hG⟩ := hrel.out
        clear hrel
        obtain ⟨f, rfl⟩ : ∃ f', f = f' + 1 := ⟨f - 1, by omega⟩
        have HST : Hid (stOf mb wr = m1.st) := h.stOf ho.t.len
        rcases List.eq_nil_or_concat m1.sd with hsd | ⟨l, t, hsd⟩
        · have HRX : Hid (G = (0, m1)) := by
            show _ = _
            rw [← hG, tryE]
            have : resE m1 = none := by unfold resE; rw [hsd]; rfl
            rw [this]
          have HR : Hid (Calls Try.prog 39 #[.pointer (some ⟨mb, 0, none⟩)] wr fun e w' => e = .returned (.bool false) ∧ Mx w0 mb s fo (.slice ca N cc) m1 w') := resume_no h ho.t.len hsd
          clear h ho hG hsd HST
          go_wp2_with (go_at_call 39; refine Calls.mono HR.out ?_; rintro e w6 ⟨rfl, q⟩; have H6 : Hid (Mx w0 mb s fo (.slice ca N cc) m1 w6) := q; clear q)
          go_ret
          rw [HRX.out]
          exact ⟨rfl, H6.out⟩
        · rw [List.concat_eq_append] at hsd
          obtain ⟨m2, hm2⟩ : ∃ m2, backE t.ch { m1 with t := t, sd := l } = m2 := ⟨_, rfl⟩
          have hre : resE m1 = some m2 := by unfold resE; rw [hsd]; simp [hm2]
          have HR : Hid (Calls Try.prog 39 #[.pointer (some ⟨mb, 0, none⟩)] wr fun e w' => e = .returned (.bool true) ∧ Mx w0 mb s fo (.slice ca N cc) m2 w') := by rw [← hm2]; exact resume_ok h ho HK.out.hR HK.out.hM hsd
          obtain ⟨r1, r2, r3, r4, r5⟩ := ho.res hre
          have HO2 : Hid (Okm N s.size R M m2 ∧ m2.t.nx < N ∧ m2.st = m1.st ∧ m1.st < f) := ⟨r1, r2, r3, by omega⟩
          obtain ⟨Q, hQ⟩ : ∃ Q, goE C s fo m2.st m2 = Q := ⟨_, rfl⟩
          have HQ : Hid (goE C s fo m2.st m2 = Q) := hQ
          have HRX : Hid (G = if Q.1 = 0 then tryE C s fo f Q.2 else Q) := by
            show _ = _
            rw [← hG, tryE, hre]
            simp only [hQ]
          have HQO : Hid (Okm N s.size R M Q.2 ∧ (Q.1 = 0 → Q.2.st < m2.st)) := by
            have := go_ok (s := s) (fo := fo) (M := M) HK.out.fit m2.st m2 (by rw [HK.out.len]; exact r1) (by rw [HK.out.len]; exact r2) rfl
            rw [hQ, HK.out.len] at this
            exact ⟨this.1, this.2.2.1⟩
          clear h ho hG hsd hre hm2 r1 r2 r3 r4 r5 hQ
          go_upto_region 3 with (go_at_call 39; refine Calls.mono HR.out ?_; rintro e w6 ⟨rfl, ⟨bv6, wv6, av6, q⟩⟩; have H6 : Hid (Mw w0 mb s fo (.slice ca N cc) m2 bv6 wv6 av6 w6) := q; clear q)
          have HGO : Hid (Calls Try.prog 40 #[.pointer (some ⟨mb, 0, none⟩)] w6 fun e w' => e = .returned (.int .u8 Q.1) ∧ Mx w0 mb s fo (.slice ca N cc) Q.2 w') := by
            have := goOn_m HK.out H6.out HO2.out.1 HO2.out.2.1
            rw [HQ.out] at this
            exact this
          obtain ⟨qn, qm⟩ := Q
          by_cases hq0 : qn = 0
          · subst hq0
            go_wp2_with (go_at_call 40; refine Calls.mono HGO.out ?_; rintro e w7 ⟨rfl, ⟨bv7, wv7, av7, q⟩⟩; have H7 : Hid (Mw w0 mb s fo (.slice ca N cc) qm bv7 wv7 av7 w7) := q; clear q)
            go_roundw
            case rel =>
              refine ⟨qm, bv7, wv7, av7, f, H7.out, HQO.out.1, ?_, HRX.out.symm⟩
              have := HQO.out.2 (by trivial); have := HO2.out.2.2; (try simp only at *); omega
            case measure =>
              rw [HST.out, H7.out.stOf HQO.out.1.t.len]
              have := HQO.out.2 (by trivial); have := HO2.out.2.2; (try simp only at *); omega
          · have iq : ((qn : Int) != 0) = true := by simp; omega
            have iq' : ((qn : Int) == 0) = false := by simp; omega
            have HRY : Hid (G = (qn, qm)) := by show _ = _; rw [HRX.out, if_neg hq0]
            go_wp2_with (go_at_call 40; refine Calls.mono HGO.out ?_; rintro e w7 ⟨rfl, q⟩; have H7 : Hid (Mx w0 mb s fo (.slice ca N cc) qm w7) := q; clear q)
            go_ret
            rw [HRY.out]
            exact ⟨rfl, H7.out⟩
    · rw [if_pos (by rfl)]
      refine wp_buildSlice 72 71 1 _ rfl (tcells T).toArray i9 _ Try.underlying72 HI.out.1 HI.out.2.1 (by rw [HI.out.2.2.1]; decide) (by rw [HI.out.2.2.1]; decide) (by rw [HI.out.2.2.1]; rw [Array.toList_map]; show Instr.fill _ _ [(0, Value.agg (tcells T).toArray)] = _; refine fill_one _ _ 25 HTS.out ?_; simp) ?_
      obtain ⟨bn, hbn⟩ : ∃ b, (w2).heap.size = b := ⟨_, rfl⟩
      obtain ⟨WN, hWN⟩ : ∃ W, (w2).alloc (.cells (tcells T).toArray 71) = W := ⟨_, rfl⟩
      have HN : Hid (Kp w WN ∧ Lc 71 bn (tcells T) WN ∧ WN.heap.size = bn + 1 ∧ w0.heap.size ≤ WN.heap.size) := by
        rw [← hWN, ← hbn]
        have k1 := kp_trans H2.out (kp_alloc (w2) (.cells (tcells T).toArray 71))
        exact ⟨k1, Lc.new _ _ _, alloc_size _ _, Nat.le_trans HH.out.1.kp.size k1.size⟩
      rw [hWN, hbn]
      clear hWN hbn
      refine hK.out _ _ trivial (fun hHeld => ?_)
      clear hK K
      try simp only [Act.put, List.setIfInBounds_toArray, List.set_cons_zero, List.set_cons_succ]
      refine wpAnyH_ready (rs := [4]) (by kernel_rfl) (by simp) ?_
      refine AllReadyH.cons rfl (fun K hK => ?_) AllReadyH.nil
      have cl := (HH.out.1.kpp HN.out.1).c30 HH.out.2.1
      go_simp
      refine hK.out _ _ trivial (fun hHeld => ?_)
      clear hK K
      try simp only [Act.put, List.setIfInBounds_toArray, List.set_cons_zero, List.set_cons_succ]
      clear cl
      have HOW : Hid (WN.ownsRow w0.heap.size 71 25 (.slice aa NA ac) NA (flatT m.sd)) := by have := row_kp HH.out.1.ra HN.out.1; rw [HH.out.2.2] at this; exact this
      have HNEW : Hid (∀ j u, (tcells T)[j]? = some u → WN.cell? ((⟨bn, 0, none⟩ : Addr).add j) = some u) := by
        intro j u hj
        rw [Addr.add_lit, Nat.zero_add]
        exact HN.out.2.1.at hj
      refine wpAnyH_ready (rs := [8]) (by kernel_rfl) (by simp) ?_
      refine AllReadyH.cons rfl (fun K1 hK => ?_) AllReadyH.nil
      refine step_append_lies _ rfl (.tmp 10) (.tmp 13) 72 rfl w0.heap.size 71 i9 _ 25 200 Try.underlying72 HI.out.1 HI.out.2.1 HI.out.2.2.1 HI.out.2.2.2 rfl (by decide) (.slice aa NA ac) NA (flatT m.sd) rfl HOW.out ⟨bn, 0, none⟩ 1 1 (tcells T) rfl HTL.out HNEW.out (tc_one _) (by omega) (by unfold maxLen; omega) (by omega) HN.out.2.2.2 (bn + 1) HN.out.2.2.1 ?_
      intro g cp w5 hown hgrow hat hlt
      obtain ⟨⟨q0, qf⟩, hF, hO⟩ := HH.out.1.growA HH.out.2.1 T HN.out.1 HH.out.2.2 hown hgrow
      have HF : Hid (Mw w0 mb s fo (.slice ca N cc) { m with sd := m.sd ++ [T] } bv wv (.slice (some ⟨g, 0, none⟩) (NA + 1) cp) (w5.setCell ⟨mb, 30, none⟩ (.slice (some ⟨g, 0, none⟩) (NA + 1) cp))) := hF
      clear hown hgrow hat hlt hF hO
      change K1 (Act.put _ (some 14) (.slice (some ⟨g, 0, none⟩) (NA + 1) cp)) w5
      refine hK.out _ _ trivial (fun hHeld => ?_)
      clear hK K1
      try simp only [Act.put, List.setIfInBounds_toArray, List.set_cons_zero, List.set_cons_succ]
      refine takeAt 9 (some 15) ?_ rfl rfl (by kernel_rfl) (by kernel_rfl) (by kernel_rfl) (fun _ _ _ h => h) (Or.inl ⟨by rfl, ?_⟩) hHeld ?_
      rotate_left
      · intro w hSw
        go_simp <;> with_reducible rfl
      try simp only [Act.put, List.setIfInBounds_toArray, List.set_cons_zero, List.set_cons_succ]
      refine takeAt 10 (some 16) ?_ rfl rfl (by kernel_rfl) (by kernel_rfl) (by kernel_rfl) (fun _ _ _ h => h) (Or.inl ⟨by rfl, ?_⟩) hHeld ?_
      rotate_left
      · intro w hSw
        go_simp <;> with_reducible rfl
      try simp only [Act.put, List.setIfInBounds_toArray, List.set_cons_zero, List.set_cons_succ]
      refine wpAnyH_ready (rs := [11]) (by kernel_rfl) (by simp) ?_
      refine AllReadyH.cons rfl (fun K hK => ?_) AllReadyH.nil
      go_simp
      refine hK.out _ _ trivial (fun hHeld => ?_)
      clear hK K
      try simp only [Act.put, List.setIfInBounds_toArray, List.set_cons_zero, List.set_cons_succ]
      refine wpAnyH_done (by kernel_rfl) ?_ _
      refine NoPanic.normal ?_
      have H0 : Hid (Ti w0 mb s fo (.slice ca N cc) C N R M G (w5.setCell ⟨mb, 30, none⟩ (.slice (some ⟨g, 0, none⟩) (NA + 1) cp))) := ⟨_, _, _, _, m.st + 2, HF.out, HOK.out, Nat.lt_succ_self _, HG.out⟩
      obtain ⟨W9, hW9⟩ : ∃ W, w5.setCell ⟨mb, 30, none⟩ (.slice (some ⟨g, 0, none⟩) (NA + 1) cp) = W := ⟨_, rfl⟩
      rw [hW9] at H0 ⊢
      clear hW9 HF q0 qf HOW HNEW HN H2 HC
      go_wp2_with fail
      go_loopw [] (fun wr => Hid (Ti w0 mb s fo (.slice ca N cc) C N R M G wr)) (fun wr => stOf mb wr)
      case atStart => exact H0
      case round =>
        obtain ⟨m1, bv1, wv1, av1, f, h, ho, hfu, hG⟩ := hrel.out
        clear hrel
        obtain ⟨f, rfl⟩ : ∃ f', f = f' + 1 := ⟨f - 1, by omega⟩
        have HST : Hid (stOf mb wr = m1.st) := h.stOf ho.t.len
        rcases List.eq_nil_or_concat m1.sd with hsd | ⟨l, t, hsd⟩
        · have HRX : Hid (G = (0, m1)) := by
            show _ = _
            rw [← hG, tryE]
            have : resE m1 = none := by unfold resE; rw [hsd]; rfl
            rw [this]
          have HR : Hid (Calls Try.prog 39 #[.pointer (some ⟨mb, 0, none⟩)] wr fun e w' => e = .returned (.bool false) ∧ Mx w0 mb s fo (.slice ca N cc) m1 w') := resume_no h ho.t.len hsd
          clear h ho hG hsd HST
          go_wp2_with (go_at_call 39; refine Calls.mono HR.out ?_; rintro e w6 ⟨rfl, q⟩; have H6 : Hid (Mx w0 mb s fo (.slice ca N cc) m1 w6) := q; clear q)
          go_ret
          rw [HRX.out]
          exact ⟨rfl, H6.out⟩
        · rw [List.concat_eq_append] at hsd
          obtain ⟨m2, hm2⟩ : ∃ m2, backE t.ch { m1 with t := t, sd := l } = m2 := ⟨_, rfl⟩
          have hre : resE m1 = some m2 := by unfold resE; rw [hsd]; simp [hm2]
          have HR : Hid (Calls Try.prog 39 #[.pointer (some ⟨mb, 0, none⟩)] wr fun e w' => e = .returned (.bool true) ∧ Mx w0 mb s fo (.slice ca N cc) m2 w') := by rw [← hm2]; exact resume_ok h ho HK.out.hR HK.out.hM hsd
          obtain ⟨r1, r2, r3, r4, r5⟩ := ho.res hre
          have HO2 : Hid (Okm N s.size R M m2 ∧ m2.t.nx < N ∧ m2.st = m1.st ∧ m1.st < f) := ⟨r1, r2, r3, by omega⟩
          obtain ⟨Q, hQ⟩ : ∃ Q, goE C s fo m2.st m2 = Q := ⟨_, rfl⟩
          have HQ : Hid (goE C s fo m2.st m2 = Q) := hQ
          have HRX : Hid (G = if Q.1 = 0 then tryE C s fo f Q.2 else Q) := by
            show _ = _
            rw [← hG, tryE, hre]
            simp only [hQ]
          have HQO : Hid (Okm N s.size R M Q.2 ∧ (Q.1 = 0 → Q.2.st < m2.st)) := by
            have := go_ok (s := s) (fo := fo) (M := M) HK.out.fit m2.st m2 (by rw [HK.out.len]; exact r1) (by rw [HK.out.len]; exact r2) rfl
            rw [hQ, HK.out.len] at this
            exact ⟨this.1, this.2.2.1⟩
          clear h ho hG hsd hre hm2 r1 r2 r3 r4 r5 hQ
          go_upto_region 3 with (go_at_call 39; refine Calls.mono HR.out ?_; rintro e w6 ⟨rfl, ⟨bv6, wv6, av6, q⟩⟩; have H6 : Hid (Mw w0 mb s fo (.slice ca N cc) m2 bv6 wv6 av6 w6) := q; clear q)
          have HGO : Hid (Calls Try.prog 40 #[.pointer (some ⟨mb, 0, none⟩)] w6 fun e w' => e = .returned (.int .u8 Q.1) ∧ Mx w0 mb s fo (.slice ca N cc) Q.2 w') := by
            have := goOn_m HK.out H6.out HO2.out.1 HO2.out.2.1
            rw [HQ.out] at this
            exact this
          obtain ⟨qn, qm⟩ := Q
          by_cases hq0 : qn = 0
          · subst hq0
            go_wp2_with (go_at_call 40; refine Calls.mono HGO.out ?_; rintro e w7 ⟨rfl, ⟨bv7, wv7, av7, q⟩⟩; have H7 : Hid (Mw w0 mb s fo (.slice ca N cc) qm bv7 wv7 av7 w7) := q; clear q)
            go_roundw
            case rel =>
              refine ⟨qm, bv7, wv7, av7, f, H7.out, HQO.out.1, ?_, HRX.out.symm⟩
              have := HQO.out.2 (by trivial); have := HO2.out.2.2; (try simp only at *); omega
            case measure =>
              rw [HST.out, H7.out.stOf HQO.out.1.t.len]
              have := HQO.out.2 (by trivial); have := HO2.out.2.2; (try simp only at *); omega
          · have iq : ((qn : Int) != 0) = true := by simp; omega
            have iq' : ((qn : Int) == 0) = false := by simp; omega
            have HRY : Hid (G = (qn, qm)) := by show _ = _; rw [HRX.out, if_neg hq0]
            go_wp2_with (go_at_call 40; refine Calls.mono HGO.out ?_; rintro e w7 ⟨rfl, q⟩; have H7 : Hid (Mx w0 mb s fo (.slice ca N cc) qm w7) := q; clear q)
            go_ret
            rw [HRY.out]
            exact ⟨rfl, H7.out⟩
end
end Go.Proofs.Ytibgpkkgaekakaa
namespace Go.Proofs.Ytibgpkkgaekakaa
open Go.ChangeShapes Go.WideShapes Go.ChangeAt Go.RowKit
set_option linter.unusedVariables false
set_option linter.unusedSimpArgs false
def mtL (ss : List Int) (F T : Int) (n : Nat) : List Int :=
  F :: T :: ((List.range 10).map (fun i => if i < n then (grpE ss i).1 else 0) ++ (List.range 10).map (fun i => if i < n then (grpE ss i).2 else 0))
theorem mtL_len (ss : List Int) (F T : Int) (n : Nat) : (mtL ss F T n).length = 22 := by simp [mtL]
theorem mtL_step (ss : List Int) (F T : Int) {n : Nat} (h : n < 10) : ((slv (mtL ss F T n)).set (2 + n) (.int .i64 (grpE ss n).1)).set (12 + n) (.int .i64 (grpE ss n).2) = slv (mtL ss F T (n + 1)) := by
  have : n = 0 ∨ n = 1 ∨ n = 2 ∨ n = 3 ∨ n = 4 ∨ n = 5 ∨ n = 6 ∨ n = 7 ∨ n = 8 ∨ n = 9 := by omega
  rcases this with rfl | rfl | rfl | rfl | rfl | rfl | rfl | rfl | rfl | rfl <;> rfl
theorem mtL_end (ss : List Int) (k K : Int) (t : Ty) (hs : t.ss = ss) : ((slv (mtL ss (mtF t k) (mtT t k) 10)).set 2 (.int .i64 (mtF t k))).set 12 (.int .i64 (mtT t k)) = slv (mtE t k) := by
  subst hs; rfl
theorem sizeMatch : (Try.prog.info? 25).map (·.size) = some 22 := by kernel_rfl
theorem rowMatch : ∃ d, Try.prog.underlying 25 = some d ∧ d.isRow = true := ⟨_, Try.underlying25, rfl⟩
theorem built_match (F T : Int) (ss : List Int) : Try.prog.built 25 [(0, .int .i64 F), (1, .int .i64 T)] = some (slv (mtL ss F T 0)).toArray := by kernel_rfl
theorem tc_slots {t : Ty} : ((tcells t).drop 0).take (slv t.ss).length = slv t.ss := by
  unfold tcells
  rw [List.drop_zero, List.take_left']
  rfl
set_option maxHeartbeats 8000000 in
set_option maxRecDepth 100000 in
theorem match_m (t : Ty) (ht : t.ss.length = 22) (k : Int) (w : World) : Calls Try.prog 27 #[.agg (tcells t).toArray, .int .i64 k] w fun e w' => e = .returned (.agg (slv (mtE t k)).toArray) ∧ Kp w w' := by
  obtain ⟨dM, hM1, hM2⟩ := rowMatch
  obtain ⟨dS, hS1, hS2⟩ := rowSlots
  have HT : Hid (Try.prog.underlying 25 = some dM ∧ dM.isRow = true ∧ Try.prog.underlying 69 = some dS ∧ dS.isRow = true) := ⟨hM1, hM2, hS1, hS2⟩
  clear hM1 hM2 hS1 hS2
  obtain ⟨b, hb⟩ : ∃ m, w.heap.size = m := ⟨_, rfl⟩
  have HB : Hid (w.heap.size = b) := hb
  obtain ⟨A, hA⟩ : ∃ A, (tcells t).toArray = A := ⟨_, rfl⟩
  obtain ⟨W1, hW1⟩ : ∃ W1, (w.alloc (.cells A 71)).alloc (.cells #[.int .i64 0, .int .i64 0, .int .i64 0, .int .i64 0, .int .i64 0, .int .i64 0, .int .i64 0, .int .i64 0, .int .i64 0, .int .i64 0, .int .i64 0, .int .i64 0, .int .i64 0, .int .i64 0, .int .i64 0, .int .i64 0, .int .i64 0, .int .i64 0, .int .i64 0, .int .i64 0, .int .i64 0, .int .i64 0] 25) = W1 := ⟨_, rfl⟩
  have H1 : Hid (Kp w W1 ∧ Lc 71 b (tcells t) W1 ∧ Lc 25 (b + 1) [.int .i64 0, .int .i64 0, .int .i64 0, .int .i64 0, .int .i64 0, .int .i64 0, .int .i64 0, .int .i64 0, .int .i64 0, .int .i64 0, .int .i64 0, .int .i64 0, .int .i64 0, .int .i64 0, .int .i64 0, .int .i64 0, .int .i64 0, .int .i64 0, .int .i64 0, .int .i64 0, .int .i64 0, .int .i64 0] W1 ∧ W1.heap.size = b + 2) := by
    rw [← hW1, ← hb, ← hA]
    have e1 := (Lc.new w (tcells t) 71).kp (kp_alloc (w.alloc (.cells (tcells t).toArray 71)) (.cells #[.int .i64 0, .int .i64 0, .int .i64 0, .int .i64 0, .int .i64 0, .int .i64 0, .int .i64 0, .int .i64 0, .int .i64 0, .int .i64 0, .int .i64 0, .int .i64 0, .int .i64 0, .int .i64 0, .int .i64 0, .int .i64 0, .int .i64 0, .int .i64 0, .int .i64 0, .int .i64 0, .int .i64 0, .int .i64 0] 25))
    have e2 := Lc.new (w.alloc (.cells (tcells t).toArray 71)) [.int .i64 0, .int .i64 0, .int .i64 0, .int .i64 0, .int .i64 0, .int .i64 0, .int .i64 0, .int .i64 0, .int .i64 0, .int .i64 0, .int .i64 0, .int .i64 0, .int .i64 0, .int .i64 0, .int .i64 0, .int .i64 0, .int .i64 0, .int .i64 0, .int .i64 0, .int .i64 0, .int .i64 0, .int .i64 0] 25
    rw [alloc_size] at e2
    exact ⟨kp_trans (kp_alloc _ _) (kp_alloc _ _), e1, e2, by rw [alloc_size, alloc_size]⟩
  obtain ⟨s20, h20⟩ : ∃ x, t.ss.getD 20 0 = x := ⟨_, rfl⟩
  obtain ⟨s21, h21⟩ : ∃ x, t.ss.getD 21 0 = x := ⟨_, rfl⟩
  have e20 : (tcells t)[20]? = some (.int .i64 s20) := by unfold tcells; rw [List.getElem?_append_left (by rw [slv_len, ht]; omega), slv_get (by omega) 0, h20]
  have e21 : (tcells t)[21]? = some (.int .i64 s21) := by unfold tcells; rw [List.getElem?_append_left (by rw [slv_len, ht]; omega), slv_get (by omega) 0, h21]
  have e23 : (tcells t)[23]? = some (.int .i64 t.k) := by unfold tcells; rw [List.getElem?_append_right (by rw [slv_len, ht]; omega), slv_len, ht]; rfl
  have c20 : W1.cell? ⟨b, 20, none⟩ = some (.int .i64 s20) := H1.out.2.1.at e20
  have c21 : W1.cell? ⟨b, 21, none⟩ = some (.int .i64 s21) := H1.out.2.1.at e21
  have c23 : W1.cell? ⟨b, 23, none⟩ = some (.int .i64 t.k) := H1.out.2.1.at e23
  obtain ⟨F, hF⟩ : ∃ F, (if s20 = -1 then k else s20) = F := ⟨_, rfl⟩
  obtain ⟨E, hE⟩ : ∃ E, (if s21 = -1 then (t.k : Int) else s21) = E := ⟨_, rfl⟩
  have HP1 : Hid (∀ z, Calls Try.prog 41 #[.int .i64 s20, .int .i64 k] z fun e w' => e = .returned (.int .i64 F) ∧ w' = z) := by intro z; have := placeOr_any s20 k z; rw [hF] at this; exact this
  have HP2 : Hid (∀ z, Calls Try.prog 41 #[.int .i64 s21, .int .i64 t.k] z fun e w' => e = .returned (.int .i64 E) ∧ w' = z) := by intro z; have := placeOr_any s21 t.k z; rw [hE] at this; exact this
  have HM : Hid (mtF t k = F ∧ mtT t k = max F E) := by
    have : mtF t k = F := by unfold mtF plcE; rw [h20, hF]
    refine ⟨this, ?_⟩
    unfold mtT plcE
    rw [this, h21, hE]
  have HS : Hid (t.ss.length = 22) := ht
  clear h20 h21 e20 e21 e23 hF hE ht
  rw [hA]
  go_enter Try.func27, Try.ntmps27
  go_upto_region 1 with fail
  try rw [hW1]
  try rw [hb]
  clear hW1 hb hA
  go_upto_region 2 with (go_at_call 41; refine Calls.mono (HP1.out _) ?_; rintro e w2 ⟨rfl, q⟩; rw [q]; clear q)
  go_upto_region 3 with (go_at_call 41; refine Calls.mono (HP2.out _) ?_; rintro e w3 ⟨rfl, q⟩; rw [q]; clear q)
  clear c20 c21 c23
  obtain ⟨TT, hTT⟩ : ∃ T, max F E = T := ⟨_, rfl⟩
  rw [hTT] at HM ⊢
  clear hTT
  obtain ⟨L0, hL0⟩ : ∃ L, slv (mtL t.ss F TT 0) = L := ⟨_, rfl⟩
  have HBM : Hid (Try.prog.built 25 [(0, .int .i64 F), (1, .int .i64 TT)] = some L0.toArray) := by rw [← hL0]; exact built_match F TT t.ss
  have HL0 : Hid (L0.length = 22 ∧ (∀ v ∈ L0, v.oneCell' = true)) := by rw [← hL0]; exact ⟨by rw [slv_len, mtL_len], slv_one _⟩
  obtain ⟨W2, hW2⟩ : ∃ W2, W1.alloc (.cells #[.int .i64 0, .int .i64 0, .int .i64 0, .int .i64 0, .int .i64 0, .int .i64 0, .int .i64 0, .int .i64 0, .int .i64 0, .int .i64 0, .int .i64 0, .int .i64 0, .int .i64 0, .int .i64 0, .int .i64 0, .int .i64 0, .int .i64 0, .int .i64 0, .int .i64 0, .int .i64 0, .int .i64 0, .int .i64 0] 25) = W2 := ⟨_, rfl⟩
  have hb3 : W1.heap.size = b + 2 := H1.out.2.2.2
  have H2 : Hid (Kp w W2 ∧ Lc 71 b (tcells t) W2 ∧ Lc 25 (b + 1) [.int .i64 0, .int .i64 0, .int .i64 0, .int .i64 0, .int .i64 0, .int .i64 0, .int .i64 0, .int .i64 0, .int .i64 0, .int .i64 0, .int .i64 0, .int .i64 0, .int .i64 0, .int .i64 0, .int .i64 0, .int .i64 0, .int .i64 0, .int .i64 0, .int .i64 0, .int .i64 0, .int .i64 0, .int .i64 0] W2 ∧ Lc 25 (b + 2) [.int .i64 0, .int .i64 0, .int .i64 0, .int .i64 0, .int .i64 0, .int .i64 0, .int .i64 0, .int .i64 0, .int .i64 0, .int .i64 0, .int .i64 0, .int .i64 0, .int .i64 0, .int .i64 0, .int .i64 0, .int .i64 0, .int .i64 0, .int .i64 0, .int .i64 0, .int .i64 0, .int .i64 0, .int .i64 0] W2) := by
    rw [← hW2]
    have e2 := Lc.new W1 [.int .i64 0, .int .i64 0, .int .i64 0, .int .i64 0, .int .i64 0, .int .i64 0, .int .i64 0, .int .i64 0, .int .i64 0, .int .i64 0, .int .i64 0, .int .i64 0, .int .i64 0, .int .i64 0, .int .i64 0, .int .i64 0, .int .i64 0, .int .i64 0, .int .i64 0, .int .i64 0, .int .i64 0, .int .i64 0] 25
    rw [hb3] at e2
    exact ⟨kp_trans H1.out.1 (kp_alloc _ _), H1.out.2.1.kp (kp_alloc _ _), H1.out.2.2.1.kp (kp_alloc _ _), e2⟩
  go_upto_region 4 with (first | (refine wpList_buildTo rfl 25 _ rfl [(0, .int .i64 F), (1, .int .i64 TT)] (by rw [Array.toList_map]; rfl) L0.toArray HBM.out ?_) | (refine wpList_store_box H2.out.2.2.2 0 L0 rfl 25 (.tmp 7) (.tmp 24) rfl rfl rfl (by rw [HL0.out.1]; decide) (by rw [HL0.out.1]; exact sizeMatch) HL0.out.2 (sets_full _ _ (by rw [HL0.out.1]; rfl)) ?_; intro W3 q1 q2 q3; have H3 : Hid (Kp w W3 ∧ Lc 71 b (tcells t) W3 ∧ Lc 25 (b + 1) [.int .i64 0, .int .i64 0, .int .i64 0, .int .i64 0, .int .i64 0, .int .i64 0, .int .i64 0, .int .i64 0, .int .i64 0, .int .i64 0, .int .i64 0, .int .i64 0, .int .i64 0, .int .i64 0, .int .i64 0, .int .i64 0, .int .i64 0, .int .i64 0, .int .i64 0, .int .i64 0, .int .i64 0, .int .i64 0] W3 ∧ Lc 25 (b + 2) (slv (mtL t.ss F TT 0)) W3) := ⟨H2.out.1.trans (q2.below H2.out.1.size fun j hj q => by unfold On at q; have := HB.out; omega), H2.out.2.1.fr q2 (fun q => by unfold On at q; omega), H2.out.2.2.1.fr q2 (fun q => by unfold On at q; omega), by rw [hL0]; exact q1⟩; clear q1 q2 q3))
  clear hW2 hb3 hL0
  go_wp2_with fail
  go_loopw [25] (fun v25 wr => ∃ n : Nat, n ≤ 10 ∧ v25 = .int .i64 n ∧ Hid (Kp w wr ∧ Lc 71 b (tcells t) wr ∧ Lc 25 (b + 1) [.int .i64 0, .int .i64 0, .int .i64 0, .int .i64 0, .int .i64 0, .int .i64 0, .int .i64 0, .int .i64 0, .int .i64 0, .int .i64 0, .int .i64 0, .int .i64 0, .int .i64 0, .int .i64 0, .int .i64 0, .int .i64 0, .int .i64 0, .int .i64 0, .int .i64 0, .int .i64 0, .int .i64 0, .int .i64 0] wr ∧ Lc 25 (b + 2) (slv (mtL t.ss F TT n)) wr)) (fun v25 _ => 10 - (intOf v25).toNat)
  case atStart => exact ⟨0, Nat.zero_le _, rfl, H3.out⟩
  case round =>
    obtain ⟨n, hn, rfl, hq⟩ := hrel
    have HQ : Hid (Kp w wr ∧ Lc 71 b (tcells t) wr ∧ Lc 25 (b + 1) [.int .i64 0, .int .i64 0, .int .i64 0, .int .i64 0, .int .i64 0, .int .i64 0, .int .i64 0, .int .i64 0, .int .i64 0, .int .i64 0, .int .i64 0, .int .i64 0, .int .i64 0, .int .i64 0, .int .i64 0, .int .i64 0, .int .i64 0, .int .i64 0, .int .i64 0, .int .i64 0, .int .i64 0, .int .i64 0] wr ∧ Lc 25 (b + 2) (slv (mtL t.ss F TT n)) wr) := hq
    clear hq
    by_cases hlt : n < 10
    · have dl : decide ((n : Int) < 10) = true := decide_eq_true (by omega)
      have HG : Hid (Calls Try.prog 42 #[.agg (slv t.ss).toArray, .int .i64 n] wr fun e w' => e = .returned (.tuple #[.int .i64 (grpE t.ss n).1, .int .i64 (grpE t.ss n).2]) ∧ Kp wr w') := group_m HS.out (by omega) wr
      go_upto_region 7 with fail
      clear dl
      have hni : (0 : Int) ≤ (n : Int) ∧ (n : Int) < 10 := by omega
      obtain ⟨ga, hga⟩ : ∃ x, (grpE t.ss n).1 = x := ⟨_, rfl⟩
      obtain ⟨gz, hgz⟩ : ∃ x, (grpE t.ss n).2 = x := ⟨_, rfl⟩
      rw [hga, hgz] at HG
      have HSZ : Hid ((Try.prog.info? 69).map (·.size) = some (slv t.ss).length) := by show _ = _; rw [slv_len, HS.out]; exact sizeSlots
      go_wp2_with (first | (refine wpList_load_box HQ.out.2.1 0 (slv t.ss) rfl 69 (.tmp 31) rfl rfl tc_slots dS HT.out.2.2.1 HT.out.2.2.2 HSZ.out ?_) | (go_at_call 42; refine Calls.mono HG.out ?_; rintro e w5 ⟨rfl, q⟩; have H5 : Hid (Kp w w5 ∧ Lc 71 b (tcells t) w5 ∧ Lc 25 (b + 1) [.int .i64 0, .int .i64 0, .int .i64 0, .int .i64 0, .int .i64 0, .int .i64 0, .int .i64 0, .int .i64 0, .int .i64 0, .int .i64 0, .int .i64 0, .int .i64 0, .int .i64 0, .int .i64 0, .int .i64 0, .int .i64 0, .int .i64 0, .int .i64 0, .int .i64 0, .int .i64 0, .int .i64 0, .int .i64 0] w5 ∧ Lc 25 (b + 2) (slv (mtL t.ss F TT n)) w5) := ⟨kp_trans HQ.out.1 q, HQ.out.2.1.kp q, HQ.out.2.2.1.kp q, HQ.out.2.2.2.kp q⟩; clear q; (obtain ⟨u1, g1⟩ : ∃ u, w5.cell? ⟨b + 2, 2 + n, none⟩ = some u := ⟨_, H5.out.2.2.2.at (List.getElem?_eq_getElem (by rw [slv_len, mtL_len]; omega))⟩); (obtain ⟨u2, g2⟩ : ∃ u, w5.cell? ⟨b + 2, 12 + n, none⟩ = some u := ⟨_, H5.out.2.2.2.at (List.getElem?_eq_getElem (by rw [slv_len, mtL_len]; omega))⟩); have g3 := H5.out.2.2.2.fz (2 + n); have g4 := H5.out.2.2.2.fz (12 + n)))
      have H6 : Hid (Kp w ((w5.setCell ⟨b + 2, 2 + n, none⟩ (.int .i64 ga)).setCell ⟨b + 2, 12 + n, none⟩ (.int .i64 gz)) ∧ Lc 71 b (tcells t) ((w5.setCell ⟨b + 2, 2 + n, none⟩ (.int .i64 ga)).setCell ⟨b + 2, 12 + n, none⟩ (.int .i64 gz)) ∧ Lc 25 (b + 1) [.int .i64 0, .int .i64 0, .int .i64 0, .int .i64 0, .int .i64 0, .int .i64 0, .int .i64 0, .int .i64 0, .int .i64 0, .int .i64 0, .int .i64 0, .int .i64 0, .int .i64 0, .int .i64 0, .int .i64 0, .int .i64 0, .int .i64 0, .int .i64 0, .int .i64 0, .int .i64 0, .int .i64 0, .int .i64 0] ((w5.setCell ⟨b + 2, 2 + n, none⟩ (.int .i64 ga)).setCell ⟨b + 2, 12 + n, none⟩ (.int .i64 gz)) ∧ Lc 25 (b + 2) (slv (mtL t.ss F TT (n + 1))) ((w5.setCell ⟨b + 2, 2 + n, none⟩ (.int .i64 ga)).setCell ⟨b + 2, 12 + n, none⟩ (.int .i64 gz))) := by
        refine ⟨kp_new (kp_new H5.out.1 (by have := HB.out; omega)) (by have := HB.out; omega), (H5.out.2.1.other (by omega)).other (by omega), (H5.out.2.2.1.other (by omega)).other (by omega), ?_⟩
        rw [← mtL_step t.ss F TT hlt, hga, hgz]
        exact (H5.out.2.2.2.set _ _).set _ _
      go_roundw
      case rel => exact ⟨n + 1, by omega, by go_num, H6.out⟩
      case measure => simp only [intOf]; omega
    · obtain rfl : n = 10 := by omega
      have g1 : wr.cell? ⟨b + 2, 2, none⟩ = _ := HQ.out.2.2.2.at rfl
      have g2 : wr.cell? ⟨b + 2, 12, none⟩ = _ := HQ.out.2.2.2.at rfl
      have g3 := HQ.out.2.2.2.fz 2
      have g4 := HQ.out.2.2.2.fz 12
      obtain ⟨LE, hLE⟩ : ∃ L, slv (mtE t k) = L := ⟨_, rfl⟩
      have HLE : Hid (LE.length = 22 ∧ (∀ v ∈ LE, v.oneCell' = true)) := by rw [← hLE]; exact ⟨by rw [slv_len, mt_len], slv_one _⟩
      obtain ⟨W6, hW6⟩ : ∃ W, (wr.setCell ⟨b + 2, 2, none⟩ (.int .i64 F)).setCell ⟨b + 2, 12, none⟩ (.int .i64 TT) = W := ⟨_, rfl⟩
      have H6 : Hid (Kp w W6 ∧ Lc 25 (b + 1) [.int .i64 0, .int .i64 0, .int .i64 0, .int .i64 0, .int .i64 0, .int .i64 0, .int .i64 0, .int .i64 0, .int .i64 0, .int .i64 0, .int .i64 0, .int .i64 0, .int .i64 0, .int .i64 0, .int .i64 0, .int .i64 0, .int .i64 0, .int .i64 0, .int .i64 0, .int .i64 0, .int .i64 0, .int .i64 0] W6 ∧ Lc 25 (b + 2) LE W6) := by
        rw [← hW6, ← hLE, ← mtL_end t.ss k k t rfl, HM.out.1, HM.out.2]
        exact ⟨kp_new (kp_new HQ.out.1 (by have := HB.out; omega)) (by have := HB.out; omega), (HQ.out.2.2.1.other (by omega)).other (by omega), (HQ.out.2.2.2.set _ _).set _ _⟩
      have HLX : Hid (slv (mtE t k) = LE) := hLE
      clear hLE
      go_upto_region 10 with fail
      try rw [hW6]
      clear hW6 g1 g2 g3 g4
      go_wp2_with (first | (refine wpList_load_box H6.out.2.2 0 LE rfl 25 (.tmp 7) rfl rfl (by rw [List.drop_zero, List.take_length]) dM HT.out.1 HT.out.2.1 (by rw [HLE.out.1]; exact sizeMatch) ?_) | (refine wpList_store_box H6.out.2.1 0 LE rfl 25 (.tmp 4) (.tmp 48) rfl rfl rfl (by rw [HLE.out.1]; decide) (by rw [HLE.out.1]; exact sizeMatch) HLE.out.2 (sets_full _ _ (by rw [HLE.out.1]; rfl)) ?_; intro W7 q1 q2 q3; have H7 : Hid (Lc 25 (b + 1) LE W7 ∧ Kp w W7) := ⟨q1, H6.out.1.trans (q2.below H6.out.1.size fun j hj q => by unfold On at q; have := HB.out; omega)⟩; clear q1 q2 q3))
      (try simp only [Exit.inBlock, Exit.then])
      refine bodyPost_ret (results_box1 rfl rfl H7.out.1 HT.out.1 HT.out.2.1 (by rw [HLE.out.1]; exact sizeMatch)) rfl ?_
      rw [HLX.out]
      exact ⟨rfl, H7.out.2⟩
end Go.Proofs.Ytibgpkkgaekakaa
namespace Go.Proofs.Ytibgpkkgaekakaa
open Go.ChangeShapes Go.WideShapes Go.ChangeAt Go.RowKit
set_option linter.unusedVariables false
set_option linter.unusedSimpArgs false
theorem infoIntT : (Try.prog.info? 3).map (fun i => (i.zero, i.size, i.bytes)) = some (some (.int .i64 0), 1, 8) := by kernel_rfl
set_option maxRecDepth 100000 in
theorem make_ints (n : Nat) (hn : n ≤ 1000000) (w : World) : (Instr.makeSlice 64 (.int .i64 n) (.int .i64 n)).run Try.prog w = .ok (.slice (some ⟨w.heap.size, 0, none⟩) n n) (w.alloc (.cells (slv (List.replicate n 0)).toArray 3)) := by
  obtain ⟨i9, hi9, z0, z1, z2⟩ := info_parts infoIntT
  have := run_makeSlice (P := Try.prog) w 64 3 i9 _ Try.underlying64 hi9 z0 .i64 .i64 n n (by omega) (by omega) (by rw [z1, Int.toNat_natCast]; omega) (by rw [z2]; omega) (by omega)
  rw [this, Int.toNat_natCast, z1]
  congr 3
  simp only [madeCells, slv, List.map_replicate]
  apply Array.ext
  · simp
  · intro k h1 h2
    simp [Value.cells, Nat.mod_one]
set_option maxHeartbeats 8000000 in
set_option maxRecDepth 100000 in
theorem newMachine_m {ca : Option Addr} {N cc R : Nat} (hR : R ≤ 100000) (fo : Bool) (s : ByteArray) (st : Nat) (w : World) :
    Calls Try.prog 25 #[.agg #[.slice ca N cc, .int .i64 R, .bool fo], .string s, .int .i64 st] w fun e w' => ∃ mb, e = .returned (.pointer (some ⟨mb, 0, none⟩)) ∧ Mx w mb s fo (.slice ca N cc) (newE R st) w' := by
  have hMk := make_ints R (by omega)
  obtain ⟨RR, hRR⟩ : ∃ A, (slv (List.replicate R 0)).toArray = A := ⟨_, rfl⟩
  simp only [hRR] at hMk
  obtain ⟨b, hb⟩ : ∃ b, w.heap.size = b := ⟨_, rfl⟩
  obtain ⟨W1, hW1⟩ : ∃ W, w.alloc (.cells #[.slice ca N cc, .int .i64 R, .bool fo] 32) = W := ⟨_, rfl⟩
  have H1 : Hid (Kp w W1 ∧ Lc 32 b [.slice ca N cc, .int .i64 R, .bool fo] W1) := by rw [← hW1, ← hb]; exact ⟨kp_alloc _ _, Lc.new w [.slice ca N cc, .int .i64 R, .bool fo] _⟩
  have b0 : W1.cell? ⟨b, 0, none⟩ = some (.slice ca N cc) := H1.out.2.at rfl
  have b1 : W1.cell? ⟨b, 1, none⟩ = some (.int .i64 R) := H1.out.2.at rfl
  have b2 : W1.cell? ⟨b, 2, none⟩ = some (.bool fo) := H1.out.2.at rfl
  have hbl : b < W1.heap.size := H1.out.2.lt
  have HRR : Hid ((slv (List.replicate R 0)).toArray = RR) := hRR
  clear hRR
  go_enter Try.func25, Try.ntmps25
  go_upto_region 1 with fail
  try rw [hW1]
  try rw [hb]
  clear hW1 hb
  go_region
  have HE : Hid (Mw w (W1.heap.size + 1) s fo (.slice ca N cc) (newE R st) (.slice (some ⟨W1.heap.size, 0, none⟩) R R) (.slice none 0 0) (.slice none 0 0) ((W1.alloc (.cells RR 3)).alloc (.cells #[.string s, .bool fo, .slice (some ⟨W1.heap.size, 0, none⟩) R R, .slice none 0 0, .int .i64 0, .int .i64 0, .int .i64 0, .int .i64 0, .int .i64 0, .int .i64 0, .int .i64 0, .int .i64 0, .int .i64 0, .int .i64 0, .int .i64 0, .int .i64 0, .int .i64 0, .int .i64 0, .int .i64 0, .int .i64 0, .int .i64 0, .int .i64 0, .int .i64 0, .int .i64 0, .int .i64 0, .int .i64 0, .int .i64 0, .int .i64 0, .int .i64 0, .slice ca N cc, .slice none 0 0, .int .i64 st] 74)).drew) := by
    have k2 : Kp (W1.alloc (.cells RR 3)) ((W1.alloc (.cells RR 3)).alloc (.cells #[.string s, .bool fo, .slice (some ⟨W1.heap.size, 0, none⟩) R R, .slice none 0 0, .int .i64 0, .int .i64 0, .int .i64 0, .int .i64 0, .int .i64 0, .int .i64 0, .int .i64 0, .int .i64 0, .int .i64 0, .int .i64 0, .int .i64 0, .int .i64 0, .int .i64 0, .int .i64 0, .int .i64 0, .int .i64 0, .int .i64 0, .int .i64 0, .int .i64 0, .int .i64 0, .int .i64 0, .int .i64 0, .int .i64 0, .int .i64 0, .int .i64 0, .slice ca N cc, .slice none 0 0, .int .i64 st] 74)).drew := kp_trans (kp_alloc _ _) (kp_drew _)
    have hRR := HRR.out
    have l1 := (Lc.new (W1.alloc (.cells RR 3)) (mcells s fo (.slice (some ⟨W1.heap.size, 0, none⟩) R R) (.slice none 0 0) (newE R st).t (.slice ca N cc) (.slice none 0 0) st) 74).kp (kp_drew _)
    rw [alloc_size] at l1
    refine ⟨kp_trans (kp_trans H1.out.1 (kp_alloc _ _)) k2, Nat.le_succ_of_le H1.out.1.size, l1, ?_, World.ownsRow_nil _ _ _ _, World.ownsRow_nil _ _ _ _⟩
    have r1 := World.ownsRow_lit (base := w.heap.size) (e := 3) (size := 1) W1 RR R H1.out.1.size (by unfold maxLen; omega) (by rw [← hRR]; simp [slv])
    rw [← hRR] at r1 k2 ⊢
    have r2 := row_kp r1 k2
    show World.ownsRow _ _ _ _ _ (List.replicate R (0 : Int)).length (slv (List.replicate R 0))
    rw [List.length_replicate]
    exact r2
  go_wp2_with fail
  go_ret
  exact ⟨_, rfl, HE.out.x⟩
end Go.Proofs.Ytibgpkkgaekakaa
namespace Go.Proofs.Ytibgpkkgaekakaa
open Go.ChangeShapes Go.WideShapes Go.ChangeAt Go.RowKit
set_option linter.unusedVariables false
set_option linter.unusedSimpArgs false
section
variable {T : TypeId} {b : Nat} {l : List Value} {w w1 : World}
theorem wp_store_box {op : Oper} {a : Act} {K : Act → World → Prop} {Q : Exit → Act → World → Prop} (h : Lc T b l w) (o : Nat) (cs : List Value) (ty : TypeId) (x y : Operand) (ho : op.op = .store ty x y) (hx : a.eval x = .pointer (some ⟨b, o, none⟩)) (hy : a.eval y = .agg cs.toArray)
    (hf : o + cs.length ≤ l.length) (hi : (Try.prog.info? ty).map (·.size) = some cs.length) (h1 : ∀ v ∈ cs, v.oneCell' = true) {l' : List Value} (hl : Go.Proofs.Ytibgpkkgaekakaa.sets l o cs = l')
    (k : ∀ w', Lc T b l' w' → Fr (On b) w w' → w'.heap.size = w.heap.size → K (a.put op.dst undef) w') : op.wp Try.prog a w K Q := by
  refine wp_store_mid ty x y ho b o cs.toArray hx hy ?_ (by simpa using hi) (all_oneCell_toArray h1) ?_
  · have : cs.toArray.size = cs.length := by simp
    rw [this]; exact h.there hf
  · have e : cs.toArray.toList = cs := by simp
    rw [e]
    exact k _ (hl ▸ h.sets cs o) (fr_sets _ _ _ _) (size_sets _ _ _ _)
theorem results_box4 {fn : Func} {t u v x : Tmp} {ty : TypeId} (hr : fn.results = #[.cell t ty, .tmp u, .tmp v, .tmp x]) {tmps : Array Value} (hp : tmps.getD t undef = .pointer (some ⟨b, 0, none⟩)) (h : Lc T b l w)
    {d : TypeDesc} (hu : Try.prog.underlying ty = some d) (hd : d.isRow = true) (hi : (Try.prog.info? ty).map (·.size) = some l.length) :
    (results fn tmps).run Try.prog w = .ok (.tuple #[.agg l.toArray, tmps.getD u undef, tmps.getD v undef, tmps.getD x undef]) w := by
  have := run_loadVar_mid (P := Try.prog) w b 0 ty l d (h.range 0 fun j v hj => by rw [Nat.zero_add]; exact hj) hu hd hi
  rw [Array.getD_eq_getD_getElem?] at hp
  simp [results, hr, hp, asAddr, this]
end
def firE (C : List Ins) (r : Int) (s : ByteArray) (fo : Bool) (a b st : Int) : List Int × Nat × Bool × Nat :=
  if 0 ≤ st ∧ st ≤ 5000 ∧ 0 ≤ a ∧ a ≤ (s.size : Int) ∧ sndF C r = true then ansE C r.toNat s fo (b + 1 - a).toNat a.toNat st.toNat else (List.replicate 22 0, 0, false, 1)
def ansV (X : List Int × Nat × Bool × Nat) : Value := .tuple #[.agg (slv X.1).toArray, .int .i64 X.2.1, .bool X.2.2.1, .int .u16 X.2.2.2]
def z22 : List Value := [.int .i64 0, .int .i64 0, .int .i64 0, .int .i64 0, .int .i64 0, .int .i64 0, .int .i64 0, .int .i64 0, .int .i64 0, .int .i64 0, .int .i64 0, .int .i64 0, .int .i64 0, .int .i64 0, .int .i64 0, .int .i64 0, .int .i64 0, .int .i64 0, .int .i64 0, .int .i64 0, .int .i64 0, .int .i64 0]
theorem z22_eq : z22 = slv (List.replicate 22 0) := rfl
theorem built_z : Try.prog.built 25 [] = some z22.toArray := by kernel_rfl
theorem z22_len : z22.length = 22 := rfl
theorem z22_one : ∀ v ∈ z22, v.oneCell' = true := by rw [z22_eq]; exact slv_one _
section
variable {w : World} {ca : Option Addr} {N cc : Nat} {C : List Ins}
set_option maxHeartbeats 4000000 in
set_option maxRecDepth 100000 in
theorem first_no (hC : Cd w (.slice ca N cc) C) (fo : Bool) (r : Int) (s : ByteArray) (a b st : Int) (hn : ¬ (0 ≤ st ∧ st ≤ 5000 ∧ 0 ≤ a ∧ a ≤ (s.size : Int) ∧ sndF C r = true)) :
    Calls Try.prog 17 #[.agg #[.slice ca N cc, .int .i64 r, .bool fo], .string s, .int .i64 a, .int .i64 b, .int .i64 st] w fun e w' => e = .returned (ansV (List.replicate 22 0, 0, false, 1)) ∧ Kp w w' := by
  obtain ⟨dM, hM1, hM2⟩ := rowMatch
  have HT : Hid (Try.prog.underlying 25 = some dM ∧ dM.isRow = true) := ⟨hM1, hM2⟩
  clear hM1 hM2
  obtain ⟨ZL, hZL⟩ : ∃ L, z22 = L := ⟨_, rfl⟩
  have HZ : Hid (Try.prog.built 25 [] = some ZL.toArray ∧ ZL.length = 22 ∧ (∀ v ∈ ZL, v.oneCell' = true) ∧ ZL = slv (List.replicate 22 0)) := by rw [← hZL]; exact ⟨built_z, z22_len, z22_one, z22_eq⟩
  obtain ⟨p, hp⟩ : ∃ b, w.heap.size = b := ⟨_, rfl⟩
  have HP : Hid (w.heap.size = p) := hp
  obtain ⟨W1, hW1⟩ : ∃ W, (w.alloc (.cells #[.slice ca N cc, .int .i64 r, .bool fo] 32)).alloc (.cells #[.int .i64 0, .int .i64 0, .int .i64 0, .int .i64 0, .int .i64 0, .int .i64 0, .int .i64 0, .int .i64 0, .int .i64 0, .int .i64 0, .int .i64 0, .int .i64 0, .int .i64 0, .int .i64 0, .int .i64 0, .int .i64 0, .int .i64 0, .int .i64 0, .int .i64 0, .int .i64 0, .int .i64 0, .int .i64 0] 25) = W := ⟨_, rfl⟩
  have H1 : Hid (Kp w W1 ∧ Lc 32 p [.slice ca N cc, .int .i64 r, .bool fo] W1 ∧ Lc 25 (p + 1) ZL W1) := by
    rw [← hW1, ← hp, ← hZL]
    have e2 := Lc.new (w.alloc (.cells #[.slice ca N cc, .int .i64 r, .bool fo] 32)) z22 25
    rw [alloc_size] at e2
    exact ⟨kp_trans (kp_alloc _ _) (kp_alloc _ _), (Lc.new w [.slice ca N cc, .int .i64 r, .bool fo] 32).kp (kp_alloc _ _), e2⟩
  obtain ⟨A, hA⟩ : ∃ A, decide (0 ≤ st ∧ st ≤ 5000) = A := ⟨_, rfl⟩
  obtain ⟨B, hB⟩ : ∃ A, decide (0 ≤ a ∧ a ≤ (s.size : Int)) = A := ⟨_, rfl⟩
  obtain ⟨D, hD⟩ : ∃ A, sndF C r = A := ⟨_, rfl⟩
  have HA : Hid (decide (0 ≤ st ∧ st ≤ 5000) = A) := hA
  have HB : Hid (decide (0 ≤ a ∧ a ≤ (s.size : Int)) = B) := hB
  have HSD : Hid (Calls Try.prog 24 #[.agg #[.slice ca N cc, .int .i64 r, .bool fo]] W1 fun e w' => e = .returned (.bool D) ∧ Kp W1 w') := by have := gsound_any fo r (hC.kp H1.out.1); rw [hD] at this; exact this
  have HN : Hid (A = true → B = true → D = true → False) := by
    intro h1 h2 h3
    rw [h1] at hA; rw [h2] at hB; rw [h3] at hD
    have q1 := of_decide_eq_true hA
    have q2 := of_decide_eq_true hB
    exact hn ⟨q1.1, q1.2, q2.1, q2.2, hD⟩
  have c0 : W1.cell? ⟨p, 0, none⟩ = some (.slice ca N cc) := H1.out.2.1.at rfl
  have c1 : W1.cell? ⟨p, 1, none⟩ = some (.int .i64 r) := H1.out.2.1.at rfl
  have c2 : W1.cell? ⟨p, 2, none⟩ = some (.bool fo) := H1.out.2.1.at rfl
  clear hA hB hD hn hC hZL
  go_enter Try.func17, Try.ntmps17
  go_upto_region 1 with fail
  try rw [hW1]
  try rw [hp]
  clear hW1 hp
  cases A with
  | false =>
    go_upto_region 2 with (go_at_call 23; refine Calls.mono (within_any _ _ _) ?_; rintro e x1 ⟨rfl, q⟩; rw [q]; clear q; first | rw [HA.out] | rw [HB.out])
    have HX : Hid (Kp w W1 ∧ Lc 25 (p + 1) ZL W1) := ⟨H1.out.1, H1.out.2.2⟩
    generalize W1 = X at HX ⊢
    go_wp2_with (first | (refine wpList_buildTo rfl 25 _ rfl [] (by simp) ZL.toArray HZ.out.1 ?_) | (refine wpList_store_box HX.out.2 0 ZL rfl 25 (.tmp 10) (.tmp 31) rfl rfl rfl (by rw [Nat.zero_add]; exact Nat.le_refl _) (by rw [HZ.out.2.1]; exact sizeMatch) HZ.out.2.2.1 (sets_full _ _ rfl) ?_; intro W7 q1 q2 q3; have H7 : Hid (Lc 25 (p + 1) ZL W7 ∧ Kp w W7) := ⟨q1, HX.out.1.trans (q2.below HX.out.1.size fun j hj q => by unfold On at q; have := HP.out; omega)⟩; clear q1 q2 q3))
    (try simp only [Exit.inBlock, Exit.then])
    refine bodyPost_ret (results_box4 rfl rfl H7.out.1 HT.out.1 HT.out.2 (by rw [HZ.out.2.1]; exact sizeMatch)) rfl ?_
    refine ⟨?_, H7.out.2⟩
    unfold ansV
    rw [← HZ.out.2.2.2]
    rfl
  | true =>
    cases B with
    | false =>
      go_upto_region 2 with (go_at_call 23; refine Calls.mono (within_any _ _ _) ?_; rintro e x1 ⟨rfl, q⟩; rw [q]; clear q; first | rw [HA.out] | rw [HB.out])
      have HX : Hid (Kp w W1 ∧ Lc 25 (p + 1) ZL W1) := ⟨H1.out.1, H1.out.2.2⟩
      generalize W1 = X at HX ⊢
      go_wp2_with (first | (refine wpList_buildTo rfl 25 _ rfl [] (by simp) ZL.toArray HZ.out.1 ?_) | (refine wpList_store_box HX.out.2 0 ZL rfl 25 (.tmp 10) (.tmp 31) rfl rfl rfl (by rw [Nat.zero_add]; exact Nat.le_refl _) (by rw [HZ.out.2.1]; exact sizeMatch) HZ.out.2.2.1 (sets_full _ _ rfl) ?_; intro W7 q1 q2 q3; have H7 : Hid (Lc 25 (p + 1) ZL W7 ∧ Kp w W7) := ⟨q1, HX.out.1.trans (q2.below HX.out.1.size fun j hj q => by unfold On at q; have := HP.out; omega)⟩; clear q1 q2 q3))
      (try simp only [Exit.inBlock, Exit.then])
      refine bodyPost_ret (results_box4 rfl rfl H7.out.1 HT.out.1 HT.out.2 (by rw [HZ.out.2.1]; exact sizeMatch)) rfl ?_
      refine ⟨?_, H7.out.2⟩
      unfold ansV
      rw [← HZ.out.2.2.2]
      rfl
    | true =>
      cases D with
      | true => exact absurd (HN.out rfl rfl rfl) id
      | false =>
        go_upto_region 2 with (first | (go_at_call 23; refine Calls.mono (within_any _ _ _) ?_; rintro e x1 ⟨rfl, q⟩; rw [q]; clear q; first | rw [HA.out] | rw [HB.out]) | (go_at_call 24; refine Calls.mono HSD.out ?_; rintro e X ⟨rfl, q⟩; have HX : Hid (Kp w X ∧ Lc 25 (p + 1) ZL X) := ⟨kp_trans H1.out.1 q, H1.out.2.2.kp q⟩; clear q))
        go_wp2_with (first | (refine wpList_buildTo rfl 25 _ rfl [] (by simp) ZL.toArray HZ.out.1 ?_) | (refine wpList_store_box HX.out.2 0 ZL rfl 25 (.tmp 10) (.tmp 31) rfl rfl rfl (by rw [Nat.zero_add]; exact Nat.le_refl _) (by rw [HZ.out.2.1]; exact sizeMatch) HZ.out.2.2.1 (sets_full _ _ rfl) ?_; intro W7 q1 q2 q3; have H7 : Hid (Lc 25 (p + 1) ZL W7 ∧ Kp w W7) := ⟨q1, HX.out.1.trans (q2.below HX.out.1.size fun j hj q => by unfold On at q; have := HP.out; omega)⟩; clear q1 q2 q3))
        (try simp only [Exit.inBlock, Exit.then])
        refine bodyPost_ret (results_box4 rfl rfl H7.out.1 HT.out.1 HT.out.2 (by rw [HZ.out.2.1]; exact sizeMatch)) rfl ?_
        refine ⟨?_, H7.out.2⟩
        unfold ansV
        rw [← HZ.out.2.2.2]
        rfl
end
end Go.Proofs.Ytibgpkkgaekakaa
