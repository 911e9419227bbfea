/- Texts that the proof of the law stands on: Scan5, Nodes, Add, Read1, PHand, Read2, Number. -/
import Derived.Test.YtmghdogoeehodaaGreatDoorPartA
import Derived.Deep.RegionWith
import Derived.Deep.Cut
import Derived.BigCall
import Derived.Deep.AppendLies
import Derived.Deep.RegionHeld3
/- The scanner's calls next and peek. -/
namespace Go.Proofs.YtmghdogoeehodaaGreatDoor
open Go.ChangeShapes Go.WideShapes Go.ChangeAt Go.RowKit
set_option linter.unusedVariables false
set_option linter.unusedSimpArgs false
/-- What comes next, what is no piece passed over: a token and what the scanner is then; or what is wrong. -/
def nextF (s : ByteArray) : Nat → Nat → ByteArray → Nat → Except (Nat × Nat) (Tok × Nat × ByteArray × Nat)
  | 0, k, _, _ => .error (30, k)
  | f + 1, k, md, cs =>
    match tokOf s md k with
    | none => .error (30, k)
    | some (t, k') =>
      if t.kd = 3 then
        match obeyF t.c md cs with
        | some (md', cs') => nextF s f k' md' cs'
        | none => .ok (t, k', md, cs)
      else .ok (t, k', md, cs)
theorem tokOf_le {s md : ByteArray} {k k' : Nat} {t : Tok} (h : tokOf s md k = some (t, k')) (hk : k ≤ s.size) : k ≤ k' ∧ k' ≤ s.size ∧ (t.kd ≠ 0 → k < k') := by
  unfold tokOf at h
  split at h
  · split at h
    · split at h
      · cases h; exact ⟨by omega, by omega, fun _ => by omega⟩
      · cases h
    · cases h; exact ⟨by omega, by omega, fun _ => by omega⟩
  · cases h; exact ⟨by omega, by omega, fun e => absurd rfl e⟩
/-- What a call of next, or of peek, comes to. -/
def NxtP (T : TypeId) (tl : List Value) (s : ByteArray) (b : Nat) (w : World) (R : Except (Nat × Nat) (Tok × Nat × ByteArray × Nat)) (e : Ending) (w' : World) : Prop :=
  match R with
  | .ok (t, k, md, cs) => e = .returned t.val ∧ Fr (On b) w w' ∧ Scn T tl s k md cs b w'
  | .error (n, a) => e = Wrong n a ∧ Fr (On b) w w'
def PkP (w : World) (R : Except (Nat × Nat) (Tok × Nat × ByteArray × Nat)) (e : Ending) (w' : World) : Prop :=
  match R with
  | .ok (t, _) => e = .returned t.val ∧ Kp w w'
  | .error (n, a) => e = Wrong n a ∧ Kp w w'
def atOf (b : Nat) (w : World) : Nat := match w.cell? ⟨b, 1, none⟩ with | some (.int _ n) => n.toNat | _ => 0
section
variable {T : TypeId} {tl : List Value} {s md : ByteArray} {at_ cs b : Nat} {w : World}
theorem Scn.atOf (h : Scn T tl s at_ md cs b w) : atOf b w = at_ := by simp [Go.Proofs.YtmghdogoeehodaaGreatDoor.atOf, h.c1]
set_option maxHeartbeats 1000000 in
theorem next_any (h : Scn T tl s at_ md cs b w) (hs : s.size ≤ 400) (ha : at_ ≤ s.size) {f : Nat} (hf : s.size - at_ < f) :
    Calls Tryz.prog 41 #[.pointer (some ⟨b, 0, none⟩)] w (NxtP T tl s b w (nextF s f at_ md cs)) := by
  obtain ⟨R, hR⟩ : ∃ R, nextF s f at_ md cs = R := ⟨_, rfl⟩
  rw [hR]
  have hne : w.heap.size ≠ b := Nat.ne_of_gt h.lt
  have H0 : Hid (Scn T tl s at_ md cs b (w.alloc (.cells #[.int .u8 0, .int .u8 0, .int .i64 0] 78)) ∧ nextF s f at_ md cs = R ∧ s.size - at_ < f) := ⟨h.kp (kp_alloc w _), hR, hf⟩
  clear h hR
  go_enter Tryz.func41, Tryz.ntmps41
  go_wp2_with fail
  go_loopw [3] (fun v wr => Fr (On b) w wr ∧ TokBox w.heap.size ⟨0, 0, 0⟩ wr ∧ ∃ k m c f, k ≤ s.size ∧ s.size - k < f ∧ Scn T tl s k m c b wr ∧ nextF s f k m c = R) (fun _ wr => s.size + 1 - atOf b wr)
  case atStart => exact ⟨Fr.alloc _ w _, TokBox.new w, at_, md, cs, f, ha, H0.out.2.2, H0.out.1, H0.out.2.1⟩
  case round =>
    obtain ⟨hFr, hBox, k, m, c, f, hk, hkf, hScn, hR⟩ := hrel
    have HAt : Hid (atOf b wr = k) := hScn.atOf
    obtain ⟨f, rfl⟩ : ∃ f', f = f' + 1 := ⟨f - 1, by omega⟩
    have HKF : Hid (s.size - k < f + 1) := hkf
    rw [nextF] at hR
    cases ht : tokOf s m k with
    | none =>
      rw [ht] at hR
      simp only at hR
      subst hR
      have HT : Hid (Calls Tryz.prog 54 #[.pointer (some ⟨b, 0, none⟩)] wr fun e w' => e = Wrong 30 k ∧ Fr (On b) wr w') := token_bad hScn hs hk ht
      have HFr : Hid (Fr (On b) w wr) := hFr
      clear ht hScn hFr hBox
      unfold Wrong at HT
      go_wp2_with fail
      refine HT.out.mono ?_
      rintro e w1 ⟨rfl, q1⟩
      go_wp2_with fail
      exact ⟨rfl, rfl, HFr.out.trans q1⟩
    | some tk =>
      obtain ⟨⟨kd, d, pl⟩, k'⟩ := tk
      have HT : Hid (Calls Tryz.prog 54 #[.pointer (some ⟨b, 0, none⟩)] wr fun e w' => e = .returned (Tok.val ⟨kd, d, pl⟩) ∧ Fr (On b) wr w' ∧ Scn T tl s k' m c b w') := token_ok hScn hs hk ht
      unfold Tok.val at HT
      simp only at HT
      rw [ht] at hR
      simp only at hR
      obtain ⟨l1, l2, l3⟩ := tokOf_le ht hk
      have HL : Hid (k ≤ k' ∧ k' ≤ s.size ∧ (kd ≠ 0 → k < k')) := ⟨l1, l2, l3⟩
      have HF0 : Hid (Fr (On b) w wr ∧ TokBox w.heap.size ⟨0, 0, 0⟩ wr) := ⟨hFr, hBox⟩
      have HR : Hid ((if kd = 3 then (match obeyF d m c with | some (md', cs') => nextF s f k' md' cs' | none => .ok (⟨kd, d, pl⟩, k', m, c)) else .ok (⟨kd, d, pl⟩, k', m, c)) = R) := hR
      clear ht hScn hFr hBox hR l1 l2 l3
      go_wp2_with fail
      refine HT.out.mono ?_
      rintro e w1 ⟨rfl, q1, q2⟩
      have H1 : Hid (Fr (On b) w w1 ∧ TokBox w.heap.size ⟨0, 0, 0⟩ w1 ∧ Scn T tl s k' m c b w1) := ⟨HF0.out.1.trans q1, HF0.out.2.fr q1 hne, q2⟩
      clear q1 q2 HF0 HT
      have H2 : Hid (∀ ob, Fr (On b) w (w1.alloc ob) ∧ TokBox w.heap.size ⟨0, 0, 0⟩ (w1.alloc ob) ∧ Scn T tl s k' m c b (w1.alloc ob) ∧ w1.heap.size ≠ b) := fun ob => ⟨H1.out.1.trans (Fr.alloc _ _ _), H1.out.2.1.kp (kp_alloc _ _), H1.out.2.2.kp (kp_alloc _ _), Nat.ne_of_gt H1.out.2.2.lt⟩
      have H3 : Hid (TokBox w1.heap.size ⟨kd, d, pl⟩ (w1.alloc (.cells #[.int .u8 kd, .int .u8 d, .int .i64 pl] 78))) := alloc_new w1 _
      go_upto_region 2 with fail
      obtain ⟨w2, hw2⟩ : ∃ w2, w1.alloc (.cells #[.int .u8 kd, .int .u8 d, .int .i64 pl] 78) = w2 := ⟨_, rfl⟩
      have H2' := H2.out (.cells #[.int .u8 kd, .int .u8 d, .int .i64 pl] 78)
      rw [hw2] at H2' H3 ⊢
      have HS2 : Hid _ := H2'
      generalize w1.heap.size = n1 at *
      obtain ⟨⟨t0, t1, t2⟩, _⟩ := H3.out.cells
      obtain ⟨⟨r0, r1, r2⟩, z0, z1, z2⟩ := HS2.out.2.1.cells
      obtain ⟨e0, e1, e2, _⟩ := HS2.out.2.1.put (.int .u8 kd) (.int .u8 d) (.int .i64 pl)
      have HE : Hid (_ ∧ _ ∧ _) := ⟨e0, e1, e2⟩
      clear H1 H2 H2' hw2 e0 e1 e2
      simp only at t0 t1 t2
      by_cases h3 : kd = 3
      · have hd : ((kd : Int) != 3) = false := by simp; omega
        cases ho : obeyF d m c with
        | none =>
          have hR := HR.out
          rw [if_pos h3, ho] at hR
          simp only at hR
          subst hR
          have HO : Hid (∀ w, Calls Tryz.prog 55 #[.pointer (some ⟨b, 0, none⟩), .int .u8 d] w fun e w' => e = .returned (.bool false) ∧ w' = w) := fun w => obey_no ho w
          clear ho HR h3
          go_wp2_with fail
          refine (HO.out _).mono ?_
          rintro e _ ⟨rfl, rfl⟩
          go_wp2_with fail
          obtain ⟨e0, e1, e2⟩ := HE.out
          exact bodyPost_ret (v := .agg #[.int .u8 kd, .int .u8 d, .int .i64 pl]) (by simp [results, Tryz.results41, go_sem, e0, e1, e2]) rfl ⟨rfl, ((HS2.out.1.new (Nat.le_refl _)).new (Nat.le_refl _)).new (Nat.le_refl _), ((HS2.out.2.2.1.other hne).other hne).other hne⟩
        | some mc =>
          obtain ⟨m', c'⟩ := mc
          have hR := HR.out
          rw [if_pos h3, ho] at hR
          simp only at hR
          have HO : Hid (Calls Tryz.prog 55 #[.pointer (some ⟨b, 0, none⟩), .int .u8 d] w2 fun e w' => e = .returned (.bool true) ∧ Fr (On b) w2 w' ∧ Scn T tl s k' m' c' b w') := obey_yes HS2.out.2.2.1 ho
          have HR2 : Hid (nextF s f k' m' c' = R ∧ kd = 3) := ⟨hR, h3⟩
          clear ho HR h3 hR
          go_wp2_with fail
          refine HO.out.mono ?_
          rintro e w3 ⟨rfl, q1, q2⟩
          have H4 : Hid (Fr (On b) w w3 ∧ TokBox w.heap.size ⟨0, 0, 0⟩ w3 ∧ Scn T tl s k' m' c' b w3) := ⟨HS2.out.1.trans q1, HS2.out.2.1.fr q1 hne, q2⟩
          clear q1 q2
          go_wp2_with fail
          go_roundw
          case rel => exact ⟨H4.out.1, H4.out.2.1, k', m', c', f, HL.out.2.1, by have := HL.out.2.2 (by rw [HR2.out.2]; omega); have := HKF.out; have := HL.out.2.1; omega, H4.out.2.2, HR2.out.1⟩
          case measure =>
            rw [H4.out.2.2.atOf, HAt.out]
            have := HL.out.2.2 (by rw [HR2.out.2]; omega)
            have := HL.out.2.1
            omega
      · have hd : ((kd : Int) != 3) = true := by simp; omega
        have hR := HR.out
        rw [if_neg h3] at hR
        subst hR
        clear HR h3
        go_wp2_with fail
        obtain ⟨e0, e1, e2⟩ := HE.out
        exact bodyPost_ret (v := .agg #[.int .u8 kd, .int .u8 d, .int .i64 pl]) (by simp [results, Tryz.results41, go_sem, e0, e1, e2]) rfl ⟨rfl, ((HS2.out.1.new (Nat.le_refl _)).new (Nat.le_refl _)).new (Nat.le_refl _), ((HS2.out.2.2.1.other hne).other hne).other hne⟩
theorem nextF_le {s : ByteArray} {f : Nat} : ∀ {k : Nat} {md : ByteArray} {cs : Nat} {t : Tok} {k' : Nat} {md' : ByteArray} {cs' : Nat}, nextF s f k md cs = .ok (t, k', md', cs') → k ≤ s.size → k ≤ k' ∧ k' ≤ s.size ∧ (t.kd ≠ 0 → k < k') := by
  induction f with
  | zero => intro k md cs t k' md' cs' h; simp [nextF] at h
  | succ f ih =>
    intro k md cs t k' md' cs' h hk
    rw [nextF] at h
    cases ht : tokOf s md k with
    | none => rw [ht] at h; cases h
    | some tk =>
      obtain ⟨t1, k1⟩ := tk
      obtain ⟨l1, l2, l3⟩ := tokOf_le ht hk
      rw [ht] at h
      simp only at h
      split at h
      · split at h
        · obtain ⟨m1, m2, m3⟩ := ih h l2
          exact ⟨by omega, m2, fun e => by have := m3 e; omega⟩
        · cases h; exact ⟨l1, l2, l3⟩
      · cases h; exact ⟨l1, l2, l3⟩
/-- peek: the scanner that is looked into stays. -/
theorem peek_any (s md : ByteArray) (at_ cs : Nat) (w : World) (hs : s.size ≤ 400) (ha : at_ ≤ s.size) {f : Nat} (hf : s.size - at_ < f) {R : Except (Nat × Nat) (Tok × Nat × ByteArray × Nat)} (hR : nextF s f at_ md cs = R) :
    Calls Tryz.prog 75 #[.agg #[.string s, .int .i64 at_, .string md, .int .u8 cs]] w (PkP w R) := by
  obtain ⟨w1, hw1⟩ : ∃ w1, (w.alloc (.cells #[.string s, .int .i64 at_, .string md, .int .u8 cs] 54)).alloc (.cells #[.int .u8 0, .int .u8 0, .int .i64 0] 78) = w1 := ⟨_, rfl⟩
  have HS : Scn 54 [] s at_ md cs w.heap.size w1 := by
    rw [← hw1]
    exact Scn.kp (show Scn 54 [] s at_ md cs w.heap.size (w.alloc (.cells #[.string s, .int .i64 at_, .string md, .int .u8 cs] 54)) from alloc_new w _) (kp_alloc _ _)
  have hB : TokBox (w.heap.size + 1) ⟨0, 0, 0⟩ w1 := by
    rw [← hw1, show w.heap.size + 1 = (w.alloc (.cells #[.string s, .int .i64 at_, .string md, .int .u8 cs] 54)).heap.size from (alloc_size w _).symm]
    exact TokBox.new _
  have hK : Kp w w1 := by rw [← hw1]; exact kp_trans (kp_alloc w _) (kp_alloc _ _)
  have HN := next_any HS hs ha hf
  rw [hR] at HN
  have HW : Hid ((w.alloc (.cells #[.string s, .int .i64 at_, .string md, .int .u8 cs] 54)).alloc (.cells #[.int .u8 0, .int .u8 0, .int .i64 0] 78) = w1) := hw1
  have H1 : Hid (TokBox (w.heap.size + 1) ⟨0, 0, 0⟩ w1 ∧ Kp w w1 ∧ Calls Tryz.prog 41 #[.pointer (some ⟨w.heap.size, 0, none⟩)] w1 (NxtP 54 [] s w.heap.size w1 R)) := ⟨hB, hK, HN⟩
  clear HS hB hK HN hw1 hR
  have HK : Hid (∀ w2, Fr (On w.heap.size) w1 w2 → Kp w w2) := fun w2 h2 => by
    have k := H1.out.2.1
    exact k.trans (h2.below k.size fun j hj => by unfold On; omega)
  go_enter Tryz.func75, Tryz.ntmps75
  go_upto_region 1 with fail
  rw [HW.out]
  clear HW
  cases R with
  | error na =>
    obtain ⟨n, a⟩ := na
    go_wp2_with fail
    refine H1.out.2.2.mono ?_
    rintro e w2 ⟨rfl, q⟩
    unfold Wrong
    go_wp2_with fail
    exact ⟨rfl, rfl, HK.out _ q⟩
  | ok r =>
    obtain ⟨⟨kd, d, pl⟩, k, m, c⟩ := r
    go_wp2_with fail
    refine H1.out.2.2.mono ?_
    rintro e w2 ⟨rfl, q, _⟩
    have HB : Hid (TokBox (w.heap.size + 1) ⟨0, 0, 0⟩ w2 ∧ Kp w w2) := ⟨H1.out.1.fr q (by omega), HK.out _ q⟩
    obtain ⟨⟨r0, r1, r2⟩, z0, z1, z2⟩ := HB.out.1.cells
    unfold Tok.val
    clear q
    go_wp2_with fail
    obtain ⟨e0, e1, e2, _⟩ := HB.out.1.put (.int .u8 kd) (.int .u8 d) (.int .i64 pl)
    refine bodyPost_ret (v := .agg #[.int .u8 kd, .int .u8 d, .int .i64 pl]) (by simp [results, Tryz.results75, go_sem, e0, e1, e2]) rfl ⟨rfl, ?_⟩
    have k := (((Fr.of_below (S := fun _ => False) HB.out.2).new (n := w.heap.size + 1) (off := 0) (v := .int .u8 kd) (by omega)).new (n := w.heap.size + 1) (off := 1) (v := .int .u8 d) (by omega)).new (n := w.heap.size + 1) (off := 2) (v := .int .i64 pl) (by omega)
    exact k.below (Nat.le_refl _) fun _ _ h => h
end
end Go.Proofs.YtmghdogoeehodaaGreatDoor
/- A reader in memory: its struct, its list of nodes, each node's kids. -/
namespace Go.Proofs.YtmghdogoeehodaaGreatDoor
open Go.ChangeShapes Go.WideShapes Go.ChangeAt Go.RowKit
set_option linter.unusedVariables false
set_option linter.unusedSimpArgs false

/-- A node, without its place in memory. -/
structure Nd where
  op : Nat
  c : Nat := 0
  set : S4 := zeroS
  mn : Int := 0
  mx : Int := 0
  lz : Bool := false
  n : Nat := 0
  kids : List Nat := []
def Nd.cells (d : Nd) (kv : Value) : List Value :=
  [.int .u8 d.op, .int .u8 d.c, .int .u64 d.set.a, .int .u64 d.set.b, .int .u64 d.set.c, .int .u64 d.set.d, .int .i64 d.mn, .int .i64 d.mx, .bool d.lz, .int .i64 d.n, kv]
def Nd.val (d : Nd) (kv : Value) : Value :=
  .agg #[.int .u8 d.op, .int .u8 d.c, .int .u64 d.set.a, .int .u64 d.set.b, .int .u64 d.set.c, .int .u64 d.set.d, .int .i64 d.mn, .int .i64 d.mx, .bool d.lz, .int .i64 d.n, kv]
def nums (l : List Nat) : List Value := l.map fun (n : Nat) => Value.int .i64 n
def flat (ns : List (Nd × Value)) : List Value := ns.flatMap fun x => x.1.cells x.2
theorem flat_snoc (ns : List (Nd × Value)) (d : Nd) (kv : Value) : flat (ns ++ [(d, kv)]) = flat ns ++ d.cells kv := by simp [flat]
theorem flat_get {ns : List (Nd × Value)} {i : Nat} {d : Nd} {kv : Value} (h : ns[i]? = some (d, kv)) (j : Nat) (hj : j < 11) : (flat ns)[i * 11 + j]? = (d.cells kv)[j]? := by
  induction ns generalizing i with
  | nil => simp at h
  | cons m ms ih =>
    have hl : (m.1.cells m.2).length = 11 := rfl
    unfold flat
    rw [List.flatMap_cons]
    cases i with
    | zero =>
      simp only [List.getElem?_cons_zero, Option.some.injEq] at h; subst h
      rw [List.getElem?_append_left (by rw [hl]; omega)]
      simp
    | succ i =>
      simp only [List.getElem?_cons_succ] at h
      rw [List.getElem?_append_right (by rw [hl]; omega)]
      have : (i + 1) * 11 + j - (m.1.cells m.2).length = i * 11 + j := by rw [hl]; omega
      rw [this]; exact ih h
def KRow (B : Nat) (w : World) (v : Value) (ks : List Nat) : Prop := w.ownsRow B 3 1 v ks.length (nums ks)
/-- What is told of a reader: where it is, mode, case, groups, those that are closed, nodes. -/
structure RS where
  k : Nat
  md : ByteArray
  cs : Nat
  g : Nat
  cl : List Bool
  nds : List Nd
/-- The list of nodes, and the blocks in which kids may lie. -/
structure Qv where
  v : Value
  kb : Nat → Prop
def Qv.ownBlock (q : Qv) : Option Nat := q.v.ownBlock
/-- Memory that is neither the reader's struct nor its list of nodes. -/
def OffK (rb : Nat) (vn : Qv) (v : Value) : Prop := ∀ j, v.ownBlock = some j → j ≠ rb ∧ vn.ownBlock ≠ some j
/-- .. nor any node's kids. -/
def Off (rb : Nat) (vn : Qv) (v : Value) : Prop := ∀ j, v.ownBlock = some j → (j ≠ rb ∧ vn.ownBlock ≠ some j) ∧ ¬ vn.kb j
structure Rd (B rb : Nat) (s last : ByteArray) (r : RS) (vn : Qv) (ns : List (Nd × Value)) (w : World) : Prop where
  ge : B ≤ rb
  scn : Scn 59 (vn.v :: .string last :: .int .i64 r.g :: r.cl.map Value.bool) s r.k r.md r.cs rb w
  row : w.ownsRow B 35 11 vn.v ns.length (flat ns)
  apart : vn.ownBlock ≠ some rb
  nds : ns.map (·.1) = r.nds
  kids : ∀ x ∈ ns, KRow B w x.2 x.1.kids ∧ OffK rb vn x.2 ∧ ∀ j, x.2.ownBlock = some j → vn.kb j
  kbl : ∀ j, vn.kb j → j < w.heap.size
/-- The reader's struct, and its list of nodes. -/
def Rb (rb : Nat) (v : Qv) (k : Nat) : Prop := k = rb ∨ v.ownBlock = some k
/-- From w to w' nothing has turned but the reader's struct and its list of nodes. -/
structure AdvX (x : Option Nat) (rb : Nat) (vn : Qv) (w : World) (vn' : Qv) (w' : World) : Prop where
  fr : Fr (Rb rb vn) w w'
  own : vn'.ownBlock = vn.ownBlock ∨ ∀ j, vn'.ownBlock = some j → w.heap.size ≤ j
  kbs : ∀ j, j < w.heap.size → vn'.kb j → vn.kb j ∨ x = some j
/-- .. and no old memory has become a node's kids. -/
abbrev Adv (rb : Nat) (vn : Qv) (w : World) (vn' : Qv) (w' : World) : Prop := AdvX none rb vn w vn' w'
section
variable {B rb : Nat} {s last : ByteArray} {r : RS} {vn vn1 vn2 : Qv} {v : Value} {ns : List (Nd × Value)} {w w1 w2 : World} {x : Option Nat}
theorem Adv.refl (rb : Nat) (vn : Qv) (w : World) : Adv rb vn w vn w := ⟨Fr.refl _ w, .inl rfl, fun _ _ h => .inl h⟩
theorem AdvX.trans (h : Adv rb vn w vn1 w1) (h' : AdvX x rb vn1 w1 vn2 w2) : AdvX x rb vn w vn2 w2 := by
  refine ⟨h.fr.trans' h'.fr fun k hk hq => ?_, ?_, fun j hj hq => ?_⟩
  · rcases hq with hq | hq
    · exact .inl hq
    · rcases h.own with e | e
      · exact .inr (by rw [← e]; exact hq)
      · exact absurd (e k hq) (by omega)
  · rcases h'.own with e | e
    · rw [e]; exact h.own
    · exact .inr fun j hj => Nat.le_trans h.fr.size (e j hj)
  · rcases h'.kbs j (Nat.lt_of_lt_of_le hj h.fr.size) hq with q | q
    · rcases h.kbs j hj q with q | q
      · exact .inl q
      · cases q
    · exact .inr q
/-- What was new ahead of the call is new. -/
theorem AdvX.drop (h : AdvX x rb vn w1 vn1 w2) (a : Adv rb vn w vn w1) (hx : ∀ j, x = some j → w.heap.size ≤ j) : Adv rb vn w vn1 w2 := by
  have q := AdvX.trans a h
  refine ⟨q.fr, q.own, fun j hj hq => ?_⟩
  rcases q.kbs j hj hq with z | z
  · exact .inl z
  · exact absurd (hx j z) (by omega)
theorem Adv.kp (vn : Qv) (rb : Nat) (k : Kp w w1) : Adv rb vn w vn w1 := ⟨Fr.of_below k, .inl rfl, fun _ _ h => .inl h⟩
theorem Adv.on (vn : Qv) (h : Fr (On rb) w w1) : Adv rb vn w vn w1 := ⟨h.mono fun _ _ q => .inl q, .inl rfl, fun _ _ h => .inl h⟩
theorem AdvX.below (h : AdvX x rb vn w vn1 w1) (hB : B ≤ w.heap.size) (hr : B ≤ rb) (hv : ∀ j, vn.ownBlock = some j → B ≤ j) : Below B w w1 :=
  h.fr.below hB fun k hk q => by
    rcases q with q | q
    · omega
    · have := hv k q; omega
theorem OffK.adv (ho : OffK rb vn v) (h : AdvX x rb vn w vn1 w1) (hlt : ∀ j, v.ownBlock = some j → j < w.heap.size) : OffK rb vn1 v := fun j hj => by
  refine ⟨(ho j hj).1, fun e => ?_⟩
  rcases h.own with q | q
  · rw [q] at e; exact (ho j hj).2 e
  · have := q j e; have := hlt j hj; omega
theorem row_advK {e : TypeId} {size n : Nat} {xs : List Value} (hr : w.ownsRow B e size v n xs) (ho : OffK rb vn v) (h : AdvX x rb vn w vn1 w1) : w1.ownsRow B e size v n xs ∧ OffK rb vn1 v := by
  have hlt : ∀ j, v.ownBlock = some j → j < w.heap.size := fun j hj => (hr.lt j hj).2
  refine ⟨⟨hr.1, ?_⟩, ho.adv h hlt⟩
  rcases hr.2 with q | ⟨b, cap, cur, rfl, hb, hg, rest⟩
  · exact .inl q
  · refine .inr ⟨b, cap, cur, rfl, hb, ?_, rest⟩
    rw [h.fr.block b (hlt b rfl) fun q => ?_]; exact hg
    rcases q with q | q
    · exact (ho b rfl).1 q
    · exact (ho b rfl).2 q
theorem Off.k (h : Off rb vn v) : OffK rb vn v := fun j hj => (h j hj).1
theorem row_adv {e : TypeId} {size n : Nat} {xs : List Value} (hr : w.ownsRow B e size v n xs) (ho : Off rb vn v) (h : Adv rb vn w vn1 w1) : w1.ownsRow B e size v n xs ∧ Off rb vn1 v := by
  obtain ⟨h1, h2⟩ := row_advK hr ho.k h
  refine ⟨h1, fun j hj => ⟨h2 j hj, fun q => ?_⟩⟩
  rcases h.kbs j (hr.lt j hj).2 q with q | q
  · exact (ho j hj).2 q
  · cases q
theorem row_kp {e : TypeId} {size n : Nat} {xs : List Value} (hr : w.ownsRow B e size v n xs) (h : Kp w w1) : w1.ownsRow B e size v n xs := by
  refine ⟨hr.1, ?_⟩
  rcases hr.2 with q | ⟨b, cap, cur, rfl, hb, hg, rest⟩
  · exact .inl q
  · exact .inr ⟨b, cap, cur, rfl, hb, by rw [h.block b (hr.lt b rfl).2]; exact hg, rest⟩
theorem Rd.own (h : Rd B rb s last r vn ns w) : ∀ j, vn.ownBlock = some j → B ≤ j ∧ j < w.heap.size := h.row.lt
theorem Rd.kp (h : Rd B rb s last r vn ns w) (k : Kp w w1) : Rd B rb s last r vn ns w1 :=
  ⟨h.ge, h.scn.kp k, row_kp h.row k, h.apart, h.nds, fun x hx => ⟨row_kp (h.kids x hx).1 k, (h.kids x hx).2⟩, fun j hj => Nat.lt_of_lt_of_le (h.kbl j hj) k.size⟩
theorem Rd.scan (h : Rd B rb s last r vn ns w) (k : Fr (On rb) w w1) {k' : Nat} {md' : ByteArray} {cs' : Nat} (hs : Scn 59 (vn.v :: .string last :: .int .i64 r.g :: r.cl.map Value.bool) s k' md' cs' rb w1) : Rd B rb s last { r with k := k', md := md', cs := cs' } vn ns w1 := by
  have a : Adv rb vn w vn w1 := Adv.on vn k
  have hrow : w1.ownsRow B 35 11 vn.v ns.length (flat ns) := by
    refine ⟨h.row.1, ?_⟩
    rcases h.row.2 with q | ⟨b, cap, cur, e, hb, hg, rest⟩
    · exact .inl q
    · refine .inr ⟨b, cap, cur, e, hb, ?_, rest⟩
      rw [k.block b (Array.getElem?_eq_some_iff.1 hg).1 fun q => h.apart (by unfold Qv.ownBlock; rw [e]; simp only [Value.ownBlock, Option.some.injEq]; exact q)]; exact hg
  exact ⟨h.ge, hs, hrow, h.apart, h.nds, fun x hx => by
    obtain ⟨q1, q2⟩ := row_advK (h.kids x hx).1 (h.kids x hx).2.1 a
    exact ⟨q1, q2, (h.kids x hx).2.2⟩, fun j hj => Nat.lt_of_lt_of_le (h.kbl j hj) k.size⟩
theorem Rd.lt (h : Rd B rb s last r vn ns w) : rb < w.heap.size := h.scn.lt
theorem Rd.len (h : Rd B rb s last r vn ns w) : ns.length = r.nds.length := by rw [← h.nds]; simp
theorem Rd.c4 (h : Rd B rb s last r vn ns w) : w.cell? ⟨rb, 4, none⟩ = some vn.v := by have := h.scn; unfold Scn at this; simp [World.cell?, this]
theorem Rd.c5 (h : Rd B rb s last r vn ns w) : w.cell? ⟨rb, 5, none⟩ = some (.string last) := by have := h.scn; unfold Scn at this; simp [World.cell?, this]
theorem Rd.c6 (h : Rd B rb s last r vn ns w) : w.cell? ⟨rb, 6, none⟩ = some (.int .i64 r.g) := by have := h.scn; unfold Scn at this; simp [World.cell?, this]
theorem Rd.fz (h : Rd B rb s last r vn ns w) (j : Nat) : w.frozen? ⟨rb, j, none⟩ = false := h.scn.fz j
end
theorem owns_form {w : World} {base size n : Nat} {e : TypeId} {v : Value} {xs : List Value} (h : w.ownsRow base e size v n xs) : ∃ a cap, v = .slice a n cap ∧ n ≤ cap ∧ cap ≤ maxLen := by
  rcases h.2 with ⟨rfl, rfl⟩ | ⟨b, cap, cur, rfl, _, _, h1, h2, _⟩
  · exact ⟨none, 0, rfl, Nat.le_refl _, by simp [maxLen]⟩
  · exact ⟨_, cap, rfl, h1, h2⟩
theorem infoInt : (Tryz.prog.info? 3).map (fun i => (i.zero, i.size, i.bytes)) = some (some (.int .i64 0), 1, 8) := by kernel_rfl
theorem infoNode : (Tryz.prog.info? 35).map (fun i => (i.zero, i.size, i.bytes)) = some (some (.agg #[.int .u8 0, .int .u8 0, .int .u64 0, .int .u64 0, .int .u64 0, .int .u64 0, .int .i64 0, .int .i64 0, .bool false, .int .i64 0, .slice none 0 0]), 11, 96) := by kernel_rfl
theorem info_parts {t : TypeId} {z : Option Value} {a b : Nat} (h : (Tryz.prog.info? t).map (fun i => (i.zero, i.size, i.bytes)) = some (z, a, b)) : ∃ i, Tryz.prog.info? t = some i ∧ i.zero = z ∧ i.size = a ∧ i.bytes = b := by
  obtain ⟨i, h1, h2⟩ := Option.map_eq_some_iff.1 h
  simp only [Prod.mk.injEq] at h2
  exact ⟨i, h1, h2.1, h2.2.1, h2.2.2⟩
end Go.Proofs.YtmghdogoeehodaaGreatDoor
/- The builder's calls add, plain, bare, set, join. -/
namespace Go.Proofs.YtmghdogoeehodaaGreatDoor
open Go.ChangeShapes Go.WideShapes Go.ChangeAt Go.RowKit
set_option linter.unusedVariables false
set_option linter.unusedSimpArgs false
section
variable {B rb : Nat} {s last : ByteArray} {r : RS} {vn : Qv} {ns : List (Nd × Value)} {w : World}
theorem cell_at {w : World} {b : Nat} {e : TypeId} {cur : Array Value} (hg : w.heap[b]? = some (.cells cur e (0, 0))) (j : Nat) : w.cell? ⟨b, j, none⟩ = cur[j]? := by simp [World.cell?, hg]
def nodeObj (d : Nd) (kv : Value) : Obj := .cells #[.int .u8 d.op, .int .u8 d.c, .int .u64 d.set.a, .int .u64 d.set.b, .int .u64 d.set.c, .int .u64 d.set.d, .int .i64 d.mn, .int .i64 d.mx, .bool d.lz, .int .i64 d.n, kv] 35
theorem drew_heap (w : World) : w.drew.heap = w.heap := rfl
theorem kp_drew (w : World) : Kp w w.drew := kp_drewN w 1
/-- The nodes' list behind one more. -/
def grown (vn : Qv) (g n cap : Nat) (kv : Value) : Qv := ⟨.slice (some ⟨g, 0, none⟩) n cap, fun j => vn.kb j ∨ kv.ownBlock = some j⟩
/-- A node more: what is to be shown behind the append. -/
theorem Rd.grow (h : Rd B rb s last r vn ns w) {d : Nd} {kv : Value} (hk : KRow B w kv d.kids) (ho : OffK rb vn kv) {w1 w2 : World} (k : Kp w w1) {g cap : Nat}
    (hown : w2.ownsRow B 35 11 (.slice (some ⟨g, 0, none⟩) (ns.length + 1) cap) (ns.length + 1) (flat ns ++ d.cells kv)) (hg : w1.grownBy w2 vn.v.ownBlock) (hat : vn.v.ownBlock = some g ∨ g = w1.heap.size) (hlt : g < w2.heap.size) :
    (w2.cell? ⟨rb, 4, none⟩ = some vn.v ∧ w2.frozen? ⟨rb, 4, none⟩ = false) ∧ Rd B rb s last { r with nds := r.nds ++ [d] } (grown vn g (ns.length + 1) cap kv) (ns ++ [(d, kv)]) (w2.setCell ⟨rb, 4, none⟩ (.slice (some ⟨g, 0, none⟩) (ns.length + 1) cap)) ∧
      AdvX kv.ownBlock rb vn w (grown vn g (ns.length + 1) cap kv) (w2.setCell ⟨rb, 4, none⟩ (.slice (some ⟨g, 0, none⟩) (ns.length + 1) cap)) := by
  have hrb : rb < w1.heap.size := Nat.lt_of_lt_of_le h.lt k.size
  have hgr : g ≠ rb := by
    rcases hat with e | e
    · exact fun q => h.apart (by unfold Qv.ownBlock; rw [e, q])
    · omega
  have e0 : w2.heap[rb]? = w.heap[rb]? := by
    rw [hg.block rb hrb (fun e => h.apart e.symm)]; exact k.block rb h.lt
  have hsc : Scn 59 (vn.v :: .string last :: .int .i64 r.g :: r.cl.map Value.bool) s r.k r.md r.cs rb w2 := h.scn.heap e0
  have ha : AdvX kv.ownBlock rb vn w (grown vn g (ns.length + 1) cap kv) (w2.setCell ⟨rb, 4, none⟩ (.slice (some ⟨g, 0, none⟩) (ns.length + 1) cap)) := by
    refine ⟨?_, ?_, fun j _ hq => hq⟩
    · have f1 : Fr (Rb rb vn) w w2 := ⟨hg.os.trans k.os, hg.tape.trans k.tape, hg.output.trans k.output, Nat.le_trans k.size hg.size, fun j hj hn => by
        rw [hg.block j (Nat.lt_of_lt_of_le hj k.size) (fun e => hn (.inr e.symm))]; exact k.block j hj⟩
      exact f1.trans (Fr.setCell (S := Rb rb vn) (.inl rfl) w2)
    · rcases hat with e | e
      · exact .inl (by unfold Qv.ownBlock; rw [e]; rfl)
      · exact .inr fun j hj => by
          simp only [grown, Qv.ownBlock, Value.ownBlock, Option.some.injEq] at hj
          rw [← hj, e]; exact k.size
  refine ⟨⟨by unfold Scn at hsc; simp [World.cell?, hsc], hsc.fz 4⟩, ⟨h.ge, ?_, ?_, ?_, ?_, ?_, ?_⟩, ha⟩
  · unfold Scn at hsc ⊢
    rw [heap_setCell hsc]
    simp [grown]
  · have hr := hown
    rw [show (ns ++ [(d, kv)]).length = ns.length + 1 by simp, flat_snoc]
    refine ⟨hr.1, ?_⟩
    rcases hr.2 with ⟨q, _⟩ | ⟨b, c, cur, e, hb, hq, rest⟩
    · cases q
    · refine .inr ⟨b, c, cur, e, hb, ?_, rest⟩
      injection e with e _ _
      injection e with e
      injection e with e _ _
      rw [heap_setCell_other (by rw [← e]; exact hgr)]; exact hq
  · simp only [grown, Qv.ownBlock, Value.ownBlock, ne_eq, Option.some.injEq]; exact hgr
  · simp [h.nds]
  · intro x hx
    rcases List.mem_append.1 hx with hx | hx
    · obtain ⟨q1, q2⟩ := row_advK (h.kids x hx).1 (h.kids x hx).2.1 ha
      exact ⟨q1, q2, fun j hj => .inl ((h.kids x hx).2.2 j hj)⟩
    · simp only [List.mem_singleton] at hx
      subst hx
      obtain ⟨q1, q2⟩ := row_advK hk ho ha
      exact ⟨q1, q2, fun j hj => .inr hj⟩
  · intro j hj
    rw [size_setCell]
    have hsz := Nat.le_trans k.size hg.size
    rcases hj with hj | hj
    · exact Nat.lt_of_lt_of_le (h.kbl j hj) hsz
    · exact Nat.lt_of_lt_of_le (hk.lt j hj).2 hsz
set_option maxHeartbeats 1000000 in
set_option maxRecDepth 100000 in
theorem add_any (h : Rd B rb s last r vn ns w) (d : Nd) {kv : Value} (hk : KRow B w kv d.kids) (ho : OffK rb vn kv) (hl : r.nds.length < 100000) (hB : B ≤ w.heap.size) :
    Calls Tryz.prog 47 #[.pointer (some ⟨rb, 4, none⟩), d.val kv] w fun e w' => e = .returned (.int .i64 r.nds.length) ∧ ∃ vn', Rd B rb s last { r with nds := r.nds ++ [d] } vn' (ns ++ [(d, kv)]) w' ∧ AdvX kv.ownBlock rb vn w vn' w' := by
  obtain ⟨ka, kc, rfl, _, _⟩ := owns_form hk
  obtain ⟨vv, vkb⟩ := vn
  obtain ⟨va, vc, e, v1, v2⟩ := owns_form h.row
  simp only at e
  subst e
  obtain ⟨N, hN⟩ : ∃ N, ns.length = N := ⟨_, rfl⟩
  have hN2 : r.nds.length = N := by rw [← h.len]; exact hN
  rw [hN2] at hl ⊢
  rw [hN]
  obtain ⟨i9, hi9, z0, z1, z2⟩ := info_parts infoNode
  have c4 := h.c4; have f4 := h.fz 4
  rw [hN] at c4
  have HO : Hid (w.ownsRow B 35 11 (.slice va N vc) N (flat ns)) := by have := h.row; rw [hN] at this; exact this
  have HG : Hid (∀ w1, Kp w w1 → ∀ g cap w2, w2.ownsRow B 35 11 (.slice (some ⟨g, 0, none⟩) (N + 1) cap) (N + 1) (flat ns ++ d.cells (.slice ka d.kids.length kc)) → w1.grownBy w2 (Value.slice va N vc).ownBlock → ((Value.slice va N vc).ownBlock = some g ∨ g = w1.heap.size) → g < w2.heap.size →
      (w2.cell? ⟨rb, 4, none⟩ = some (.slice va N vc) ∧ w2.frozen? ⟨rb, 4, none⟩ = false) ∧ Hid (Rd B rb s last { r with nds := r.nds ++ [d] } (grown ⟨.slice va N vc, vkb⟩ g (N + 1) cap (.slice ka d.kids.length kc)) (ns ++ [(d, .slice ka d.kids.length kc)]) (w2.setCell ⟨rb, 4, none⟩ (.slice (some ⟨g, 0, none⟩) (N + 1) cap)) ∧
      AdvX (Value.slice ka d.kids.length kc).ownBlock rb ⟨.slice va N vc, vkb⟩ w (grown ⟨.slice va N vc, vkb⟩ g (N + 1) cap (.slice ka d.kids.length kc)) (w2.setCell ⟨rb, 4, none⟩ (.slice (some ⟨g, 0, none⟩) (N + 1) cap)))) := by
    intro w1 k g cap w2 q1 q2 q3 q4
    rw [← hN] at q1 q2 q3 ⊢
    exact h.grow hk ho k q1 q2 q3 q4
  unfold maxLen at v2
  unfold Nd.val
  have HK : Hid (Kp w (((w.alloc (nodeObj d (.slice ka d.kids.length kc))).alloc (nodeObj d (.slice ka d.kids.length kc))).drew)) := kp_trans (kp_trans (kp_alloc w _) (kp_alloc _ _)) (kp_drew _)
  have HSZ : Hid ((((w.alloc (nodeObj d (.slice ka d.kids.length kc))).alloc (nodeObj d (.slice ka d.kids.length kc))).drew).heap.size = w.heap.size + 2) := by show (((w.alloc (nodeObj d (.slice ka d.kids.length kc))).alloc (nodeObj d (.slice ka d.kids.length kc))).drew).heap.size = w.heap.size + 2; rw [drew_heap, alloc_size, alloc_size]
  have HOW : Hid ((((w.alloc (nodeObj d (.slice ka d.kids.length kc))).alloc (nodeObj d (.slice ka d.kids.length kc))).drew).ownsRow B 35 11 (.slice va N vc) N (flat ns)) := row_kp HO.out HK.out
  have HNEW : Hid (∀ j u, (d.cells (.slice ka d.kids.length kc))[j]? = some u → (((w.alloc (nodeObj d (.slice ka d.kids.length kc))).alloc (nodeObj d (.slice ka d.kids.length kc))).drew).cell? ((⟨w.heap.size + 1, 0, none⟩ : Addr).add j) = some u) := by
    intro j u hj
    have e : w.heap.size + 1 = (w.alloc (nodeObj d (.slice ka d.kids.length kc))).heap.size := by rw [alloc_size]
    rw [Addr.add_lit, e]
    have := alloc_new (w.alloc (nodeObj d (.slice ka d.kids.length kc))) (nodeObj d (.slice ka d.kids.length kc))
    rw [← drew_heap] at this
    unfold nodeObj at this ⊢
    rw [cell_at this, Nat.zero_add]
    rw [← hj]; exact List.getElem?_toArray
  have HONE : Hid (∀ u ∈ d.cells (.slice ka d.kids.length kc), u.oneCell' = true) := by
    intro u hu
    simp only [Nd.cells, List.mem_cons, List.not_mem_nil, or_false] at hu
    rcases hu with rfl | rfl | rfl | rfl | rfl | rfl | rfl | rfl | rfl | rfl | rfl <;> rfl
  have HBW : Hid (B ≤ (((w.alloc (nodeObj d (.slice ka d.kids.length kc))).alloc (nodeObj d (.slice ka d.kids.length kc))).drew).heap.size) := by have := HSZ.out; show B ≤ _; omega
  have hrb : rb < w.heap.size := h.lt
  clear h hk ho hN hN2
  go_enter Tryz.func47, Tryz.ntmps47
  go_upto_region 1 with fail
  go_region_law ((refine step_append_lies _ (by rfl) (.tmp 9) (.tmp 11) 23 rfl B 35 i9 _ 11 96 Tryz.underlying23 hi9 z0 z1 z2 rfl (by decide) (.slice va N vc) N (flat ns) (by rfl) HOW.out ⟨w.heap.size + 1, 0, none⟩ 1 1 (d.cells (.slice ka d.kids.length kc)) (by rfl) rfl HNEW.out HONE.out (by omega) (by unfold maxLen; omega) (by omega) HBW.out (w.heap.size + 2) HSZ.out ?_; intro g cp w2 hown hgrow hat hlt; obtain ⟨⟨q0, qf⟩, HF⟩ := HG.out _ HK.out g cp w2 hown hgrow (by rw [HSZ.out]; exact hat) hlt; clear hown hgrow hat))
  all_goals
    obtain ⟨w3, hw3⟩ : ∃ w3, w2.setCell ⟨rb, 4, none⟩ (.slice (some ⟨g, 0, none⟩) (N + 1) cp) = w3 := ⟨_, rfl⟩
    rw [hw3] at HF ⊢
    have d4 : w3.cell? ⟨rb, 4, none⟩ = some (.slice (some ⟨g, 0, none⟩) (N + 1) cp) := HF.out.1.c4
    clear hw3
    go_wp2_with fail
    go_ret
    exact ⟨by simp, _, HF.out.1, HF.out.2⟩
theorem leaf_row (B : Nat) (w : World) : KRow B w (.slice none 0 0) [] := World.ownsRow_nil _ _ _ _
theorem off_nil (rb : Nat) (vn : Qv) : OffK rb vn (.slice none 0 0) := fun j hj => by cases hj
/-- What a call that adds a node comes to. -/
def Added (B rb : Nat) (s last : ByteArray) (r : RS) (vn : Qv) (ns : List (Nd × Value)) (w : World) (d : Nd) (kv : Value) (e : Ending) (w' : World) : Prop :=
  e = .returned (.int .i64 r.nds.length) ∧ ∃ vn', Rd B rb s last { r with nds := r.nds ++ [d] } vn' (ns ++ [(d, kv)]) w' ∧ AdvX kv.ownBlock rb vn w vn' w'
theorem bplain_any (h : Rd B rb s last r vn ns w) (c : Nat) (hl : r.nds.length < 100000) (hB : B ≤ w.heap.size) :
    Calls Tryz.prog 57 #[.pointer (some ⟨rb, 4, none⟩), .int .u8 c] w (Added B rb s last r vn ns w { op := 2, c := c } (.slice none 0 0)) := by
  have HA : Hid (Calls Tryz.prog 47 #[.pointer (some ⟨rb, 4, none⟩), .agg #[.int .u8 2, .int .u8 c, .int .u64 0, .int .u64 0, .int .u64 0, .int .u64 0, .int .i64 0, .int .i64 0, .bool false, .int .i64 0, .slice none 0 0]] w (Added B rb s last r vn ns w { op := 2, c := c } (.slice none 0 0))) := add_any h { op := 2, c := c } (leaf_row B w) (off_nil _ _) hl hB
  clear h
  go_enter Tryz.func57, Tryz.ntmps57
  go_wp2_with fail
  refine HA.out.mono ?_
  rintro e w1 ⟨rfl, q⟩
  have HQ : Hid _ := q
  clear q
  go_wp2_with fail
  go_ret
  exact ⟨rfl, HQ.out⟩
theorem bare_any (h : Rd B rb s last r vn ns w) (op : Nat) (hl : r.nds.length < 100000) (hB : B ≤ w.heap.size) :
    Calls Tryz.prog 46 #[.pointer (some ⟨rb, 4, none⟩), .int .u8 op] w (Added B rb s last r vn ns w { op := op } (.slice none 0 0)) := by
  have HA : Hid (Calls Tryz.prog 47 #[.pointer (some ⟨rb, 4, none⟩), .agg #[.int .u8 op, .int .u8 0, .int .u64 0, .int .u64 0, .int .u64 0, .int .u64 0, .int .i64 0, .int .i64 0, .bool false, .int .i64 0, .slice none 0 0]] w (Added B rb s last r vn ns w { op := op } (.slice none 0 0))) := add_any h { op := op } (leaf_row B w) (off_nil _ _) hl hB
  clear h
  go_enter Tryz.func46, Tryz.ntmps46
  go_wp2_with fail
  refine HA.out.mono ?_
  rintro e w1 ⟨rfl, q⟩
  have HQ : Hid _ := q
  clear q
  go_wp2_with fail
  go_ret
  exact ⟨rfl, HQ.out⟩
theorem Added.kp {d : Nd} {kv : Value} {w0 w' : World} {e : Ending} (k : Kp w0 w) (h : Added B rb s last r vn ns w d kv e w') : Added B rb s last r vn ns w0 d kv e w' := by
  obtain ⟨h1, vn', h2, h3⟩ := h
  exact ⟨h1, vn', h2, AdvX.trans (Adv.kp vn rb k) h3⟩
theorem set_any (h : Rd B rb s last r vn ns w) (q : S4) (hl : r.nds.length < 100000) (hB : B ≤ w.heap.size) :
    Calls Tryz.prog 78 #[.pointer (some ⟨rb, 4, none⟩), .agg #[.int .u64 q.a, .int .u64 q.b, .int .u64 q.c, .int .u64 q.d]] w (Added B rb s last r vn ns w { op := 4, set := q } (.slice none 0 0)) := by
  have HA : Hid (∀ ob, Calls Tryz.prog 47 #[.pointer (some ⟨rb, 4, none⟩), .agg #[.int .u8 4, .int .u8 0, .int .u64 q.a, .int .u64 q.b, .int .u64 q.c, .int .u64 q.d, .int .i64 0, .int .i64 0, .bool false, .int .i64 0, .slice none 0 0]] (w.alloc ob) (Added B rb s last r vn ns (w.alloc ob) { op := 4, set := q } (.slice none 0 0))) := fun ob => add_any (h.kp (kp_alloc w ob)) { op := 4, set := q } (leaf_row B _) (off_nil _ _) hl (by rw [alloc_size]; omega)
  clear h
  go_enter Tryz.func78, Tryz.ntmps78
  go_wp2_with fail
  refine (HA.out _).mono ?_
  intro e w1 z
  have z' := Added.kp (kp_alloc w _) z
  clear z
  obtain ⟨rfl, z⟩ := z'
  have HQ : Hid _ := z
  clear z
  go_wp2_with fail
  go_ret
  exact ⟨rfl, HQ.out⟩
theorem join_none (h : Rd B rb s last r vn ns w) (op : Nat) (hl : r.nds.length < 100000) (hB : B ≤ w.heap.size) {v : Value} (hk : KRow B w v []) :
    Calls Tryz.prog 34 #[.pointer (some ⟨rb, 4, none⟩), .int .u8 op, v] w (Added B rb s last r vn ns w { op := 1 } (.slice none 0 0)) := by
  obtain ⟨a, c, rfl, _, _⟩ := owns_form hk
  have HA : Hid (Calls Tryz.prog 46 #[.pointer (some ⟨rb, 4, none⟩), .int .u8 1] w (Added B rb s last r vn ns w { op := 1 } (.slice none 0 0))) := bare_any h 1 hl hB
  clear h hk
  go_enter Tryz.func34, Tryz.ntmps34
  go_wp2_with fail
  refine HA.out.mono ?_
  rintro e w1 ⟨rfl, q⟩
  have HQ : Hid _ := q
  clear q
  go_wp2_with fail
  go_ret
  exact ⟨rfl, HQ.out⟩
theorem krow_cell {v : Value} {ks : List Nat} {a : Option Addr} {n c : Nat} (hk : KRow B w (.slice a n c) ks) {j x : Nat} (hj : ks[j]? = some x) : ∃ kb, a = some ⟨kb, 0, none⟩ ∧ w.cell? ⟨kb, j, none⟩ = some (.int .i64 x) ∧ w.frozen? ⟨kb, j, none⟩ = false := by
  have hlt := (List.getElem?_eq_some_iff.1 hj).1
  rcases hk.2 with ⟨_, q⟩ | ⟨b, cap, cur, e, hb, hg, h1, h2, h3, h4⟩
  · omega
  · injection e with e _ _
    refine ⟨b, e, ?_, by simp [World.frozen?, hg]⟩
    rw [cell_at hg]
    have : (nums ks)[j]? = some (.int .i64 x) := by simp [nums, hj]
    rw [← h4, List.getElem?_take] at this
    split at this
    · simpa using this
    · cases this
theorem join_one {v : Value} {x : Nat} (op : Nat) (hk : KRow B w v [x]) :
    Calls Tryz.prog 34 #[.pointer (some ⟨rb, 4, none⟩), .int .u8 op, v] w fun e w' => e = .returned (.int .i64 x) ∧ w' = w := by
  obtain ⟨a, c, rfl, h1, h2⟩ := owns_form hk
  obtain ⟨kb, rfl, c0, _⟩ := krow_cell (v := .slice a 1 c) hk (j := 0) (x := x) rfl
  unfold maxLen at h2
  simp only [List.length_cons, List.length_nil, Nat.zero_add] at h1
  clear hk
  go_enter Tryz.func34, Tryz.ntmps34
  go_wp2_with fail
  go_ret
  exact ⟨rfl, rfl⟩
theorem join_more (h : Rd B rb s last r vn ns w) (op : Nat) (hl : r.nds.length < 100000) (hB : B ≤ w.heap.size) {v : Value} {ks : List Nat} (hk : KRow B w v ks) (ho : OffK rb vn v) (h2 : 2 ≤ ks.length) (h3 : ks.length < 100000) :
    Calls Tryz.prog 34 #[.pointer (some ⟨rb, 4, none⟩), .int .u8 op, v] w (Added B rb s last r vn ns w { op := op, kids := ks } v) := by
  have HA : Calls Tryz.prog 47 #[.pointer (some ⟨rb, 4, none⟩), .agg #[.int .u8 op, .int .u8 0, .int .u64 0, .int .u64 0, .int .u64 0, .int .u64 0, .int .i64 0, .int .i64 0, .bool false, .int .i64 0, v]] w (Added B rb s last r vn ns w { op := op, kids := ks } v) := add_any h { op := op, kids := ks } hk ho hl hB
  obtain ⟨a, c, rfl, k1, k2⟩ := owns_form hk
  have HA' : Hid _ := HA
  obtain ⟨K, hK⟩ : ∃ K, ks.length = K := ⟨_, rfl⟩
  rw [hK] at HA' h2 h3 ⊢
  have d0 : ((K : Int) == 0) = false := by simp; omega
  have d1 : ((K : Int) == 1) = false := by simp; omega
  clear h hk ho hK HA
  go_enter Tryz.func34, Tryz.ntmps34
  go_wp2_with fail
  refine Calls.mono HA'.out ?_
  rintro e w1 ⟨rfl, q⟩
  have HQ : Hid _ := q
  clear q
  go_wp2_with fail
  go_ret
  exact ⟨rfl, HQ.out⟩
end
end Go.Proofs.YtmghdogoeehodaaGreatDoor
/- The reader's small calls: repeats, control, edge, back, letter. -/
namespace Go.Proofs.YtmghdogoeehodaaGreatDoor
open Go.ChangeShapes Go.WideShapes Go.ChangeAt Go.RowKit
set_option linter.unusedVariables false
set_option linter.unusedSimpArgs false

/-- The reader, whatever its nodes' kids lie in. -/
def Rr (B rb : Nat) (s last : ByteArray) (r : RS) (vn : Qv) (w : World) : Prop := ∃ ns, Rd B rb s last r vn ns w
/-- From w to w' the reader has become 'r''. -/
def Okk (B rb : Nat) (s last : ByteArray) (vn : Qv) (w : World) (r' : RS) (w' : World) : Prop := ∃ vn', Rr B rb s last r' vn' w' ∧ Adv rb vn w vn' w'
/-- What a call that fails leaves: nothing has turned but the reader's own. -/
def Er (rb : Nat) (vn : Qv) (w w' : World) : Prop := Fr (Rb rb vn) w w'
/-- What a call that answers a node's number comes to. -/
def RetI (B rb : Nat) (s last : ByteArray) (vn : Qv) (w : World) (R : Except (Nat × Nat) (Nat × RS)) (e : Ending) (w' : World) : Prop :=
  match R with
  | .ok (i, r') => e = .returned (.int .i64 i) ∧ Okk B rb s last vn w r' w'
  | .error (n, p) => e = Wrong n p ∧ Er rb vn w w'
def addN (d : Nd) (r : RS) : Nat × RS := (r.nds.length, { r with nds := r.nds ++ [d] })
def repB (op : Nat) : Bool := op == 2 || op == 3 || op == 4 || op == 5 || op == 8 || op == 9 || op == 1
def ctlC (c : Nat) : Nat := if c = 101 then 27 else if c = 116 then 9 else if c = 114 then 13 else if c = 98 then 8 else c
def edgeF (s : ByteArray) (t : Tok) (r : RS) : Except (Nat × Nat) (Nat × RS) :=
  if pfx s r.k ⟨#[115]⟩ then .ok (addN { op := 14 } { r with k := r.k + 1 }) else if pfx s r.k ⟨#[101]⟩ then .ok (addN { op := 15 } { r with k := r.k + 1 }) else .error (30, t.pl)
def backF (t : Tok) (r : RS) : Except (Nat × Nat) (Nat × RS) :=
  if r.cl.getD (t.c - 48) false then .ok (addN { op := 9, n := t.c - 48 } r) else .error (31, t.pl)
def letterF (s : ByteArray) (t : Tok) (r : RS) : Except (Nat × Nat) (Nat × RS) :=
  if t.c = 101 ∨ t.c = 116 ∨ t.c = 114 ∨ t.c = 98 then .ok (addN { op := 2, c := ctlC t.c } r)
  else if t.c = 110 then .ok (addN { op := 4 } r)
  else if t.c = 122 then edgeF s t r
  else if 49 ≤ t.c ∧ t.c ≤ 57 then backF t r
  else if knB (smI t.c) then .ok (addN { op := 4, set := foldS (isB t.c) 256 } r)
  else .error (30, t.pl)
section
variable {B rb : Nat} {s last : ByteArray} {r : RS} {vn : Qv} {w w1 w2 : World}
theorem Rr.kp (h : Rr B rb s last r vn w) (k : Kp w w1) : Rr B rb s last r vn w1 := by obtain ⟨ns, h⟩ := h; exact ⟨ns, h.kp k⟩
theorem Rr.hB (h : Rr B rb s last r vn w) : B ≤ w.heap.size := by obtain ⟨ns, h⟩ := h; have := h.lt; have := h.ge; omega
theorem Rr.lt (h : Rr B rb s last r vn w) : rb < w.heap.size := by obtain ⟨ns, h⟩ := h; exact h.lt
theorem Rr.scn (h : Rr B rb s last r vn w) : Scn 59 (vn.v :: .string last :: .int .i64 r.g :: r.cl.map Value.bool) s r.k r.md r.cs rb w := by obtain ⟨ns, h⟩ := h; exact h.scn
theorem Rr.below (h : Rr B rb s last r vn w) {vn' : Qv} (a : Adv rb vn w vn' w1) : Below B w w1 := by
  have hB := h.hB
  obtain ⟨ns, h⟩ := h
  exact AdvX.below a hB h.ge fun j hj => (h.own j hj).1
theorem Rr.er (h : Rr B rb s last r vn w) {vn' : Qv} (a : Adv rb vn w vn' w1) : Er rb vn w w1 := a.fr
theorem Rr.ert (h : Rr B rb s last r vn w) {vn' : Qv} (a : Adv rb vn w vn' w1) (q : Er rb vn' w1 w2) : Er rb vn w w2 := by
  refine Fr.trans' a.fr q fun k hk hq => ?_
  rcases hq with hq | hq
  · exact .inl hq
  · rcases a.own with e | e
    · exact .inr (by rw [← e]; exact hq)
    · exact absurd (e k hq) (by omega)
theorem Rr.scan (h : Rr B rb s last r vn w) (k : Fr (On rb) w w1) {k' : Nat} {md' : ByteArray} {cs' : Nat} (hs : Scn 59 (vn.v :: .string last :: .int .i64 r.g :: r.cl.map Value.bool) s k' md' cs' rb w1) : Rr B rb s last { r with k := k', md := md', cs := cs' } vn w1 := by
  obtain ⟨ns, h⟩ := h; exact ⟨ns, h.scan k hs⟩
theorem Okk.refl (h : Rr B rb s last r vn w) : Okk B rb s last vn w r w := ⟨vn, h, Adv.refl _ _ _⟩
theorem Okk.ahead {r' : RS} (a : Adv rb vn w vn w1) (h : Okk B rb s last vn w1 r' w2) : Okk B rb s last vn w r' w2 := by
  obtain ⟨vn', h1, h2⟩ := h; exact ⟨vn', h1, AdvX.trans a h2⟩
theorem Added.okk {ns : List (Nd × Value)} {d : Nd} {e : Ending} (h : Added B rb s last r vn ns w d (.slice none 0 0) e w1) : e = .returned (.int .i64 r.nds.length) ∧ Okk B rb s last vn w { r with nds := r.nds ++ [d] } w1 := by
  obtain ⟨h1, vn', h2, h3⟩ := h; exact ⟨h1, vn', ⟨_, h2⟩, h3⟩
/-- The builder's calls, in these words. -/
theorem rplain (h : Rr B rb s last r vn w) (c : Nat) (hl : r.nds.length < 100000) : Calls Tryz.prog 57 #[.pointer (some ⟨rb, 4, none⟩), .int .u8 c] w fun e w' => e = .returned (.int .i64 r.nds.length) ∧ Okk B rb s last vn w { r with nds := r.nds ++ [{ op := 2, c := c }] } w' := by
  have hB := h.hB
  obtain ⟨ns, h⟩ := h
  exact (bplain_any h c hl hB).mono fun e w' q => q.okk
theorem rbare (h : Rr B rb s last r vn w) (op : Nat) (hl : r.nds.length < 100000) : Calls Tryz.prog 46 #[.pointer (some ⟨rb, 4, none⟩), .int .u8 op] w fun e w' => e = .returned (.int .i64 r.nds.length) ∧ Okk B rb s last vn w { r with nds := r.nds ++ [{ op := op }] } w' := by
  have hB := h.hB
  obtain ⟨ns, h⟩ := h
  exact (bare_any h op hl hB).mono fun e w' q => q.okk
theorem rset (h : Rr B rb s last r vn w) (q : S4) (hl : r.nds.length < 100000) : Calls Tryz.prog 78 #[.pointer (some ⟨rb, 4, none⟩), .agg #[.int .u64 q.a, .int .u64 q.b, .int .u64 q.c, .int .u64 q.d]] w fun e w' => e = .returned (.int .i64 r.nds.length) ∧ Okk B rb s last vn w { r with nds := r.nds ++ [{ op := 4, set := q }] } w' := by
  have hB := h.hB
  obtain ⟨ns, h⟩ := h
  exact (set_any h q hl hB).mono fun e w' q => q.okk
theorem repeats_any (op : Nat) (w : World) : Calls Tryz.prog 35 #[.int .u8 op] w fun e w' => e = .returned (.bool (repB op)) ∧ w' = w := by
  have e : repB op = ((op : Int) == 2 || (op : Int) == 3 || (op : Int) == 4 || (op : Int) == 5 || (op : Int) == 8 || (op : Int) == 9 || (op : Int) == 1) := by
    have : ∀ n : Nat, (op == n) = ((op : Int) == (n : Int)) := fun n => by
      by_cases e : op = n
      · subst e; simp
      · rw [beq_eq_false_iff_ne.2 e, beq_eq_false_iff_ne.2 (by omega)]
    simp only [repB, this]; rfl
  rw [e]
  go_enter Tryz.func35, Tryz.ntmps35
  cases h2 : ((op : Int) == 2)
  · cases h3 : ((op : Int) == 3)
    · cases h4 : ((op : Int) == 4)
      · cases h5 : ((op : Int) == 5)
        · cases h8 : ((op : Int) == 8)
          · cases h9 : ((op : Int) == 9)
            · cases h1 : ((op : Int) == 1)
              all_goals
                go_wp2
                go_ret
                exact ⟨rfl, rfl⟩
            · go_wp2
              go_ret
              exact ⟨rfl, rfl⟩
          · go_wp2
            go_ret
            exact ⟨rfl, rfl⟩
        · go_wp2
          go_ret
          exact ⟨rfl, rfl⟩
      · go_wp2
        go_ret
        exact ⟨rfl, rfl⟩
    · go_wp2
      go_ret
      exact ⟨rfl, rfl⟩
  · go_wp2
    go_ret
    exact ⟨rfl, rfl⟩
theorem control_any (c : Nat) (w : World) : Calls Tryz.prog 80 #[.int .u8 c] w fun e w' => e = .returned (.int .u8 (ctlC c)) ∧ w' = w := by
  unfold ctlC
  by_cases h1 : c = 101
  · subst h1
    go_enter Tryz.func80, Tryz.ntmps80
    go_wp2
    go_ret
    exact ⟨rfl, rfl⟩
  by_cases h2 : c = 116
  · subst h2
    go_enter Tryz.func80, Tryz.ntmps80
    go_wp2
    go_ret
    exact ⟨rfl, rfl⟩
  by_cases h3 : c = 114
  · subst h3
    go_enter Tryz.func80, Tryz.ntmps80
    go_wp2
    go_ret
    exact ⟨rfl, rfl⟩
  by_cases h4 : c = 98
  · subst h4
    go_enter Tryz.func80, Tryz.ntmps80
    go_wp2
    go_ret
    exact ⟨rfl, rfl⟩
  rw [if_neg h1, if_neg h2, if_neg h3, if_neg h4]
  have e1 : ((c : Int) == 101) = false := by simp; omega
  have e2 : ((c : Int) == 116) = false := by simp; omega
  have e3 : ((c : Int) == 114) = false := by simp; omega
  have e4 : ((c : Int) == 98) = false := by simp; omega
  clear h1 h2 h3 h4
  go_enter Tryz.func80, Tryz.ntmps80
  go_wp2
  go_ret
  exact ⟨rfl, rfl⟩
/-- A text is passed over, if it comes. -/
theorem rskip (h : Rr B rb s last r vn w) (hs : s.size ≤ 400) (ha : r.k ≤ s.size) (t : ByteArray) (ht : t.size ≤ 400) {y : Bool} (hy : pfx s r.k t = y) :
    Calls Tryz.prog 92 #[.pointer (some ⟨rb, 0, none⟩), .string t] w fun e w' => e = .returned (.bool y) ∧ Rr B rb s last { r with k := if y then r.k + t.size else r.k } vn w' ∧ Fr (On rb) w w' := by
  refine (skip_any h.scn hs ha t ht y hy).mono ?_
  rintro e w' ⟨rfl, q1, q2⟩
  exact ⟨rfl, h.scan q1 q2, q1⟩
theorem edge_any (h : Rr B rb s last r vn w) (hs : s.size ≤ 400) (ha : r.k ≤ s.size) (hl : r.nds.length < 100000) (t : Tok) :
    Calls Tryz.prog 81 #[.pointer (some ⟨rb, 0, none⟩), t.val] w (RetI B rb s last vn w (edgeF s t r)) := by
  obtain ⟨kd, c, pl⟩ := t
  unfold Tok.val edgeF
  simp only
  have HB : Hid (∀ w1, Kp (w.alloc (.cells #[.int .u8 kd, .int .u8 c, .int .i64 pl] 78)) w1 ∨ Fr (On rb) (w.alloc (.cells #[.int .u8 kd, .int .u8 c, .int .i64 pl] 78)) w1 → TokBox w.heap.size ⟨kd, c, pl⟩ w1) := fun w1 k => by
    have hn : TokBox w.heap.size ⟨kd, c, pl⟩ (w.alloc (.cells #[.int .u8 kd, .int .u8 c, .int .i64 pl] 78)) := alloc_new w _
    rcases k with k | k
    · exact hn.kp k
    · exact hn.fr k (Nat.ne_of_gt h.lt)
  have HR : Hid (Rr B rb s last r vn w ∧ ∀ ob, Rr B rb s last r vn (w.alloc ob)) := ⟨h, fun ob => h.kp (kp_alloc w ob)⟩
  clear h
  cases h1 : pfx s r.k ⟨#[115]⟩ with
  | true =>
    go_enter Tryz.func81, Tryz.ntmps81
    go_wp2_with fail
    refine Calls.mono (rskip (HR.out.2 _) hs ha _ (by decide) h1) ?_
    rintro e w1 ⟨rfl, q1, q2⟩
    have H1 : Hid (Rr B rb s last { r with k := r.k + 1 } vn w1 ∧ Adv rb vn w vn w1) := ⟨q1, (Adv.kp vn rb (kp_alloc w _)).trans (Adv.on vn q2)⟩
    clear q1 q2
    go_wp2_with fail
    refine Calls.mono (rbare H1.out.1 14 hl) ?_
    rintro e w2 ⟨rfl, q⟩
    have H2 : Hid (Okk B rb s last vn w _ w2) := Okk.ahead H1.out.2 q
    clear q
    go_wp2_with fail
    go_ret
    exact ⟨rfl, H2.out⟩
  | false =>
    cases h2 : pfx s r.k ⟨#[101]⟩ with
    | true =>
      go_enter Tryz.func81, Tryz.ntmps81
      go_wp2_with fail
      refine Calls.mono (rskip (HR.out.2 _) hs ha _ (by decide) h1) ?_
      rintro e w1 ⟨rfl, q1, q2⟩
      have H1 : Hid (Rr B rb s last { r with k := r.k } vn w1 ∧ Adv rb vn w vn w1) := ⟨q1, (Adv.kp vn rb (kp_alloc w _)).trans (Adv.on vn q2)⟩
      clear q1 q2
      go_wp2_with fail
      refine Calls.mono (rskip H1.out.1 hs ha _ (by decide) h2) ?_
      rintro e w2 ⟨rfl, q1, q2⟩
      have H2 : Hid (Rr B rb s last { r with k := r.k + 1 } vn w2 ∧ Adv rb vn w vn w2) := ⟨q1, H1.out.2.trans (Adv.on vn q2)⟩
      clear q1 q2
      go_wp2_with fail
      refine Calls.mono (rbare H2.out.1 15 hl) ?_
      rintro e w3 ⟨rfl, q⟩
      have H3 : Hid (Okk B rb s last vn w _ w3) := Okk.ahead H2.out.2 q
      clear q
      go_wp2_with fail
      go_ret
      exact ⟨rfl, H3.out⟩
    | false =>
      go_enter Tryz.func81, Tryz.ntmps81
      go_wp2_with fail
      refine Calls.mono (rskip (HR.out.2 _) hs ha _ (by decide) h1) ?_
      rintro e w1 ⟨rfl, q1, q2⟩
      have H1 : Hid (Rr B rb s last { r with k := r.k } vn w1 ∧ Adv rb vn w vn w1 ∧ Fr (On rb) _ w1) := ⟨q1, (Adv.kp vn rb (kp_alloc w _)).trans (Adv.on vn q2), q2⟩
      clear q1 q2
      go_wp2_with fail
      refine Calls.mono (rskip H1.out.1 hs ha _ (by decide) h2) ?_
      rintro e w2 ⟨rfl, q1, q2⟩
      have H2 : Hid (Adv rb vn w vn w2) := H1.out.2.1.trans (Adv.on vn q2)
      obtain ⟨⟨r0, r1, r2⟩, _⟩ := (HB.out w2 (.inr (H1.out.2.2.trans q2))).cells
      clear q1 q2
      go_wp2_with fail
      exact ⟨rfl, rfl, HR.out.1.er H2.out⟩
end
end Go.Proofs.YtmghdogoeehodaaGreatDoor
/- Steps of a region that draws its order, walked by hand. -/
namespace Go.Proofs.YtmghdogoeehodaaGreatDoor
open Go.ChangeShapes Go.WideShapes Go.ChangeAt Go.RowKit
set_option linter.unusedVariables false
set_option linter.unusedSimpArgs false
theorem takeAt {P : Program} {ops : Array Oper} {Q : Exit → Act → World → Prop} {md : Region.Mode} {S : World → Prop} (i : Nat) (dst : Option Tmp) (v : Value) {oi : Oper} {fuel : Nat} {listed : Array Bool} {a : Act} {w : World} (hi : ops[i]? = some oi) (hd : oi.dst = dst)
    (hs : Region.noSelect ops = true) (hf : Region.free md ops listed i = true) (hr : (Region.ready md ops listed).contains i = true)
    (hQ : ∀ c a w, Q (.panic c) (a.put dst v) w → Q (.panic c) a w) (hy : YieldsIf P ops S oi v a) (hS : S w)
    (h : wpAnyH P md ops Q S fuel (listed.setIfInBounds i true) (a.put dst v) w) : wpAnyH P md ops Q S (fuel + 1) listed a w := by
  subst hd
  exact wpAnyH_take hi hs hf hr hQ hy hS h
theorem run_callGo {P : Program} {f : FuncId} {fn : Func} (args : Array Value) (w : World) (hf : P.funcs[f]? = some fn) (hn : (fn.name == "runtime.NumGoroutine") = false) (hb : fn.body.isNone = false) : (callFunc f args).run P w = .ok (.enter f args) w := by
  have h1 : ¬ fn.name = "runtime.NumGoroutine" := by simpa using hn
  have h2 : ¬ fn.body = none := by intro e; rw [e] at hb; cases hb
  simp [callFunc, hf, h1, h2]
/-- The call of a Go function comes up alone. -/
theorem callAt {P : Program} {ops : Array Oper} {Q : Exit → Act → World → Prop} {md : Region.Mode} {S : World → Prop} (i : Nat) (d : Tmp) (f : FuncId) {o : Oper} {fn : Func} {fuel : Nat} {listed : Array Bool} {a : Act} {w : World} {xs : Array Operand} {ats : Array TypeId} {vals : Array Value}
    (hr : Region.ready md ops listed = [i]) (ho : ops[i]? = some o) (hop : o.op = .call { callee := .value (.func f), args := xs, argTypes := ats }) (hd : o.dst = some d) (hg : o.guard = none) (hv : xs.map a.eval = vals)
    (hf : P.funcs[f]? = some fn) (hn : (fn.name == "runtime.NumGoroutine") = false) (hb : fn.body.isNone = false)
    (h : Calls P f vals w fun e w' => ∃ v, e = .returned v ∧ S w' ∧ (S w' → wpAnyH P md ops Q S fuel (listed.setIfInBounds i true) (a.put (some d) v) w')) : wpAnyH P md ops Q S (fuel + 1) listed a w := by
  refine wpAnyH_ready hr (by simp) ?_
  refine AllReadyH.cons ho (fun K hK => ?_) AllReadyH.nil
  have hw : Region.wanted o (yielded ops a.tmps) = true := by simp [Region.wanted, hg]
  rw [if_pos hw]
  obtain ⟨dst, op, type, pos, after, guard⟩ := o
  simp only at hop hd hg
  subst hop; subst hd; subst hg
  unfold Oper.wp
  rw [execOp_call_go, show (#[] ++ xs.map a.eval ++ #[]) = vals by simp [hv], run_callGo vals w hf hn hb]
  simp only [Oper.upon]
  refine Calls.mono h ?_
  rintro e w' ⟨v, rfl, hS, hW⟩
  exact hK.out _ _ hS hW
theorem callAtG {P : Program} {ops : Array Oper} {Q : Exit → Act → World → Prop} {md : Region.Mode} {S : World → Prop} (i : Nat) (d : Tmp) (f : FuncId) {o : Oper} {fn : Func} {fuel : Nat} {listed : Array Bool} {a : Act} {w : World} {xs : Array Operand} {ats : Array TypeId} {vals : Array Value}
    (hr : Region.ready md ops listed = [i]) (ho : ops[i]? = some o) (hop : o.op = .call { callee := .value (.func f), args := xs, argTypes := ats }) (hd : o.dst = some d) (hw : Region.wanted o (yielded ops a.tmps) = true) (hv : xs.map a.eval = vals)
    (hf : P.funcs[f]? = some fn) (hn : (fn.name == "runtime.NumGoroutine") = false) (hb : fn.body.isNone = false)
    (h : Calls P f vals w fun e w' => ∃ v, e = .returned v ∧ S w' ∧ (S w' → wpAnyH P md ops Q S fuel (listed.setIfInBounds i true) (a.put (some d) v) w')) : wpAnyH P md ops Q S (fuel + 1) listed a w := by
  refine wpAnyH_ready hr (by simp) ?_
  refine AllReadyH.cons ho (fun K hK => ?_) AllReadyH.nil
  rw [if_pos hw]
  obtain ⟨dst, op, type, pos, after, guard⟩ := o
  simp only at hop hd
  subst hop; subst hd
  unfold Oper.wp
  rw [execOp_call_go, show (#[] ++ xs.map a.eval ++ #[]) = vals by simp [hv], run_callGo vals w hf hn hb]
  simp only [Oper.upon]
  refine Calls.mono h ?_
  rintro e w' ⟨v, rfl, hS, hW⟩
  exact hK.out _ _ hS hW
end Go.Proofs.YtmghdogoeehodaaGreatDoor
/- The reader's calls back and letter. -/
namespace Go.Proofs.YtmghdogoeehodaaGreatDoor
open Go.ChangeShapes Go.WideShapes Go.ChangeAt Go.RowKit
set_option linter.unusedVariables false
set_option linter.unusedSimpArgs false
theorem TokBox.adv {n rb : Nat} {t : Tok} {w w' : World} {vn vn' : Qv} (h : TokBox n t w) (a : Adv rb vn w vn' w') (hn : n ≠ rb) (hv : vn.ownBlock ≠ some n) : TokBox n t w' := by
  unfold TokBox at *
  rw [a.fr.block n (Array.getElem?_eq_some_iff.1 h).1 fun q => ?_]; exact h
  rcases q with q | q
  · exact hn q
  · exact hv q
/-- A set in a block of its own. -/
def SetBox (n : Nat) (q : S4) (w : World) : Prop := w.heap[n]? = some (.cells #[.int .u64 q.a, .int .u64 q.b, .int .u64 q.c, .int .u64 q.d] 32 (0, 0))
theorem SetBox.cells {n : Nat} {q : S4} {w : World} (h : SetBox n q w) : w.cell? ⟨n, 0, none⟩ = some (.int .u64 q.a) ∧ w.cell? ⟨n, 1, none⟩ = some (.int .u64 q.b) ∧ w.cell? ⟨n, 2, none⟩ = some (.int .u64 q.c) ∧ w.cell? ⟨n, 3, none⟩ = some (.int .u64 q.d) := by
  unfold SetBox at h
  exact ⟨by simp [World.cell?, h], by simp [World.cell?, h], by simp [World.cell?, h], by simp [World.cell?, h]⟩
theorem SetBox.adv {n rb : Nat} {q : S4} {w w' : World} {vn vn' : Qv} (h : SetBox n q w) (a : Adv rb vn w vn' w') (hn : n ≠ rb) (hv : vn.ownBlock ≠ some n) : SetBox n q w' := by
  unfold SetBox at *
  rw [a.fr.block n (Array.getElem?_eq_some_iff.1 h).1 fun z => ?_]; exact h
  rcases z with z | z
  · exact hn z
  · exact hv z
section
variable {B rb : Nat} {s last : ByteArray} {r : RS} {vn : Qv} {w : World}
theorem Rr.closed (h : Rr B rb s last r vn w) (hc : r.cl.length = 10) {n : Nat} (hn : n < 10) : w.cell? ⟨rb, 7 + n, none⟩ = some (.bool (r.cl.getD n false)) := by
  have := h.scn
  unfold Scn at this
  have e : (r.cl.map Value.bool)[n]? = some (.bool (r.cl.getD n false)) := by simp [List.getD, List.getElem?_eq_getElem (show n < r.cl.length by omega)]
  simp only [World.cell?, this]
  rw [show 7 + n = n + 1 + 1 + 1 + 1 + 1 + 1 + 1 by omega]
  simp only [List.getElem?_toArray, List.getElem?_cons_succ]
  rw [e]
  rfl
theorem Rr.own (h : Rr B rb s last r vn w) {n : Nat} (hn : w.heap.size ≤ n) : vn.ownBlock ≠ some n := fun e => by
  obtain ⟨ns, h⟩ := h
  have := (h.own n e).2; omega
theorem back_any (h : Rr B rb s last r vn w) (hl : r.nds.length < 100000) (hc : r.cl.length = 10) (t : Tok) (ht : 49 ≤ t.c ∧ t.c ≤ 57) :
    Calls Tryz.prog 82 #[.pointer (some ⟨rb, 0, none⟩), t.val] w (RetI B rb s last vn w (backF t r)) := by
  obtain ⟨kd, c, pl⟩ := t
  unfold Tok.val backF
  simp only at ht ⊢
  obtain ⟨N, hN⟩ : ∃ N, c - 48 = N := ⟨_, rfl⟩
  have hcN : (c : Int) - 48 = (N : Int) := by omega
  have hcl := (h.kp (kp_alloc w (.cells #[.int .u8 kd, .int .u8 c, .int .i64 pl] 78))).closed hc (n := N) (by omega)
  have HR : Hid (Rr B rb s last r vn w ∧ ∀ ob, Rr B rb s last r vn (w.alloc ob)) := ⟨h, fun ob => h.kp (kp_alloc w ob)⟩
  rw [hN]
  have HA : Hid (∀ ob, Calls Tryz.prog 47 #[.pointer (some ⟨rb, 4, none⟩), .agg #[.int .u8 9, .int .u8 0, .int .u64 0, .int .u64 0, .int .u64 0, .int .u64 0, .int .i64 0, .int .i64 0, .bool false, .int .i64 N, .slice none 0 0]] (w.alloc ob) fun e w' => e = .returned (.int .i64 r.nds.length) ∧ Okk B rb s last vn (w.alloc ob) { r with nds := r.nds ++ [{ op := 9, n := N }] } w') := fun ob => by
    have hB := (HR.out.2 ob).hB
    obtain ⟨ns, h⟩ := HR.out.2 ob
    exact (add_any h { op := 9, n := N } (leaf_row B _) (off_nil _ _) hl hB).mono fun e w' q => Added.okk q
  have h9 : N ≤ 9 := by omega
  have h8 : c ≤ 57 := ht.2
  have h7 : 49 ≤ c := ht.1
  generalize r.cl.getD N false = y at *
  clear h hN ht hc
  cases y with
  | true =>
    go_enter Tryz.func82, Tryz.ntmps82
    go_wp2_with fail
    refine Calls.mono (HA.out _) ?_
    rintro e w1 ⟨rfl, q⟩
    have H2 : Hid (Okk B rb s last vn w _ w1) := Okk.ahead (Adv.kp vn rb (kp_alloc w _)) q
    clear q
    go_wp2_with fail
    go_ret
    exact ⟨rfl, H2.out⟩
  | false =>
    go_enter Tryz.func82, Tryz.ntmps82
    go_wp2_with fail
    exact ⟨rfl, rfl, HR.out.1.er (Adv.kp vn rb (kp_alloc w _))⟩
set_option maxHeartbeats 2000000 in
set_option maxRecDepth 100000 in
theorem letter_any (h : Rr B rb s last r vn w) (hs : s.size ≤ 400) (ha : r.k ≤ s.size) (hl : r.nds.length < 100000) (hc : r.cl.length = 10) (t : Tok) (ht : t.c < 256) :
    Calls Tryz.prog 60 #[.pointer (some ⟨rb, 0, none⟩), t.val] w (RetI B rb s last vn w (letterF s t r)) := by
  obtain ⟨kd, c, pl⟩ := t
  unfold Tok.val letterF
  simp only
  have HR : Hid (Rr B rb s last r vn w ∧ ∀ ob, Rr B rb s last r vn (w.alloc ob)) := ⟨h, fun ob => h.kp (kp_alloc w ob)⟩
  have hne : w.heap.size ≠ rb := Nat.ne_of_gt h.lt
  have HV : Hid (vn.ownBlock ≠ some w.heap.size) := h.own (Nat.le_refl _)
  have HB : Hid (TokBox w.heap.size ⟨kd, c, pl⟩ (w.alloc (.cells #[.int .u8 kd, .int .u8 c, .int .i64 pl] 78)) ∧ TokBox w.heap.size ⟨kd, c, pl⟩ (w.alloc (.cells #[.int .u8 kd, .int .u8 c, .int .i64 pl] 78)).drew) := ⟨alloc_new w _, alloc_new w _⟩
  have rule1 : ∀ w', TokBox w.heap.size ⟨kd, c, pl⟩ w' → w'.cell? ⟨w.heap.size, 1, none⟩ = some (.int .u8 c) := fun _ h => h.cells.1.2.1
  by_cases h101 : c = 101
  · rw [if_pos (by omega)]
    have e101 : ((c : Int) == 101) = true := by simp; omega
    clear h101 h
    go_enter Tryz.func60, Tryz.ntmps60
    go_wp2_with fail
    refine wp_region_noPanic ?_
    refine wp_region_held_drew (S := TokBox w.heap.size ⟨kd, c, pl⟩) (by kernel_rfl) (HB.out.2) (fun hHeld => ?_)
    refine takeAt 0 (some 14) ?_ rfl rfl (by kernel_rfl) (by kernel_rfl) (by kernel_rfl) (fun _ _ _ h => h) (Or.inl ⟨by rfl, ?_⟩) hHeld ?_
    rotate_left
    · intro w hSw
      go_simp <;> with_reducible rfl
    try simp only [Act.put, List.setIfInBounds_toArray, List.set_cons_zero, List.set_cons_succ]
    refine takeAt 1 (some 15) ?_ rfl rfl (by kernel_rfl) (by kernel_rfl) (by kernel_rfl) (fun _ _ _ h => h) (Or.inl ⟨by rfl, ?_⟩) hHeld ?_
    rotate_left
    · intro w hSw
      go_simp <;> with_reducible rfl
    try simp only [Act.put, List.setIfInBounds_toArray, List.set_cons_zero, List.set_cons_succ]
    refine takeAt 2 (some 16) ?_ rfl rfl (by kernel_rfl) (by kernel_rfl) (by kernel_rfl) (fun _ _ _ h => h) (Or.inl ⟨by rfl, ?_⟩) hHeld ?_
    rotate_left
    · intro w hSw
      go_simp <;> with_reducible rfl
    try simp only [Act.put, List.setIfInBounds_toArray, List.set_cons_zero, List.set_cons_succ]
    refine takeAt 3 (some 17) ?_ rfl rfl (by kernel_rfl) (by kernel_rfl) (by kernel_rfl) (fun _ _ _ h => h) (Or.inl ⟨by rfl, ?_⟩) hHeld ?_
    rotate_left
    · intro w hSw
      go_simp <;> with_reducible rfl
    try simp only [Act.put, List.setIfInBounds_toArray, List.set_cons_zero, List.set_cons_succ]
    refine takeAt 4 (some 18) ?_ rfl rfl (by kernel_rfl) (by kernel_rfl) (by kernel_rfl) (fun _ _ _ h => h) (Or.inl ⟨by rfl, ?_⟩) hHeld ?_
    rotate_left
    · intro w hSw
      go_simp <;> with_reducible rfl
    try simp only [Act.put, List.setIfInBounds_toArray, List.set_cons_zero, List.set_cons_succ]
    refine callAt 5 19 80 (vals := #[.int .u8 c]) (by kernel_rfl) rfl rfl rfl rfl (by simp [Act.eval]) Tryz.func80 (by kernel_rfl) (by kernel_rfl) ?_
    refine Calls.mono (control_any c _) ?_
    rintro e _ ⟨rfl, rfl⟩
    refine ⟨_, rfl, HB.out.2, fun hHeld => ?_⟩
    try simp only [Act.put, List.setIfInBounds_toArray, List.set_cons_zero, List.set_cons_succ]
    refine callAt 6 20 57 (vals := #[.pointer (some ⟨rb, 4, none⟩), .int .u8 (ctlC c)]) (by kernel_rfl) rfl rfl rfl rfl (by simp [Act.eval]) Tryz.func57 (by kernel_rfl) (by kernel_rfl) ?_
    refine Calls.mono (rplain ((HR.out.2 _).kp (kp_drew _)) (ctlC c) hl) ?_
    rintro e w2 ⟨rfl, q⟩
    have H2 : Hid (Okk B rb s last vn w _ w2 ∧ TokBox w.heap.size ⟨kd, c, pl⟩ w2) := ⟨Okk.ahead (Adv.kp vn rb (kp_trans (kp_alloc w _) (kp_drew _))) q, by obtain ⟨vn', _, a⟩ := q; exact HB.out.2.adv a hne HV.out⟩
    clear q
    refine ⟨_, rfl, H2.out.2, fun hHeld => ?_⟩
    try simp only [Act.put, List.setIfInBounds_toArray, List.set_cons_zero, List.set_cons_succ]
    refine takeAt 7 (some 4) ?_ rfl rfl (by kernel_rfl) (by kernel_rfl) (by kernel_rfl) (fun _ _ _ h => h) (Or.inl ⟨by rfl, ?_⟩) hHeld ?_
    rotate_left
    · intro w hSw
      go_simp <;> with_reducible rfl
    try simp only [Act.put, List.setIfInBounds_toArray, List.set_cons_zero, List.set_cons_succ]
    refine wpAnyH_done (by kernel_rfl) ?_ _
    refine NoPanic.normal ?_
    go_wp2_with fail
    go_ret
    exact ⟨rfl, H2.out.1⟩
  by_cases h116 : c = 116
  · rw [if_pos (by omega)]
    have e116 : ((c : Int) == 116) = true := by simp; omega
    have e101 : ((c : Int) == 101) = false := by simp; omega
    clear h116 h
    go_enter Tryz.func60, Tryz.ntmps60
    go_wp2_with fail
    refine wp_region_noPanic ?_
    refine wp_region_held_drew (S := TokBox w.heap.size ⟨kd, c, pl⟩) (by kernel_rfl) (HB.out.2) (fun hHeld => ?_)
    refine takeAt 0 (some 14) ?_ rfl rfl (by kernel_rfl) (by kernel_rfl) (by kernel_rfl) (fun _ _ _ h => h) (Or.inl ⟨by rfl, ?_⟩) hHeld ?_
    rotate_left
    · intro w hSw
      go_simp <;> with_reducible rfl
    try simp only [Act.put, List.setIfInBounds_toArray, List.set_cons_zero, List.set_cons_succ]
    refine takeAt 1 (some 15) ?_ rfl rfl (by kernel_rfl) (by kernel_rfl) (by kernel_rfl) (fun _ _ _ h => h) (Or.inl ⟨by rfl, ?_⟩) hHeld ?_
    rotate_left
    · intro w hSw
      go_simp <;> with_reducible rfl
    try simp only [Act.put, List.setIfInBounds_toArray, List.set_cons_zero, List.set_cons_succ]
    refine takeAt 2 (some 16) ?_ rfl rfl (by kernel_rfl) (by kernel_rfl) (by kernel_rfl) (fun _ _ _ h => h) (Or.inl ⟨by rfl, ?_⟩) hHeld ?_
    rotate_left
    · intro w hSw
      go_simp <;> with_reducible rfl
    try simp only [Act.put, List.setIfInBounds_toArray, List.set_cons_zero, List.set_cons_succ]
    refine takeAt 3 (some 17) ?_ rfl rfl (by kernel_rfl) (by kernel_rfl) (by kernel_rfl) (fun _ _ _ h => h) (Or.inl ⟨by rfl, ?_⟩) hHeld ?_
    rotate_left
    · intro w hSw
      go_simp <;> with_reducible rfl
    try simp only [Act.put, List.setIfInBounds_toArray, List.set_cons_zero, List.set_cons_succ]
    refine takeAt 4 (some 18) ?_ rfl rfl (by kernel_rfl) (by kernel_rfl) (by kernel_rfl) (fun _ _ _ h => h) (Or.inl ⟨by rfl, ?_⟩) hHeld ?_
    rotate_left
    · intro w hSw
      go_simp <;> with_reducible rfl
    try simp only [Act.put, List.setIfInBounds_toArray, List.set_cons_zero, List.set_cons_succ]
    refine callAt 5 19 80 (vals := #[.int .u8 c]) (by kernel_rfl) rfl rfl rfl rfl (by simp [Act.eval]) Tryz.func80 (by kernel_rfl) (by kernel_rfl) ?_
    refine Calls.mono (control_any c _) ?_
    rintro e _ ⟨rfl, rfl⟩
    refine ⟨_, rfl, HB.out.2, fun hHeld => ?_⟩
    try simp only [Act.put, List.setIfInBounds_toArray, List.set_cons_zero, List.set_cons_succ]
    refine callAt 6 20 57 (vals := #[.pointer (some ⟨rb, 4, none⟩), .int .u8 (ctlC c)]) (by kernel_rfl) rfl rfl rfl rfl (by simp [Act.eval]) Tryz.func57 (by kernel_rfl) (by kernel_rfl) ?_
    refine Calls.mono (rplain ((HR.out.2 _).kp (kp_drew _)) (ctlC c) hl) ?_
    rintro e w2 ⟨rfl, q⟩
    have H2 : Hid (Okk B rb s last vn w _ w2 ∧ TokBox w.heap.size ⟨kd, c, pl⟩ w2) := ⟨Okk.ahead (Adv.kp vn rb (kp_trans (kp_alloc w _) (kp_drew _))) q, by obtain ⟨vn', _, a⟩ := q; exact HB.out.2.adv a hne HV.out⟩
    clear q
    refine ⟨_, rfl, H2.out.2, fun hHeld => ?_⟩
    try simp only [Act.put, List.setIfInBounds_toArray, List.set_cons_zero, List.set_cons_succ]
    refine takeAt 7 (some 4) ?_ rfl rfl (by kernel_rfl) (by kernel_rfl) (by kernel_rfl) (fun _ _ _ h => h) (Or.inl ⟨by rfl, ?_⟩) hHeld ?_
    rotate_left
    · intro w hSw
      go_simp <;> with_reducible rfl
    try simp only [Act.put, List.setIfInBounds_toArray, List.set_cons_zero, List.set_cons_succ]
    refine wpAnyH_done (by kernel_rfl) ?_ _
    refine NoPanic.normal ?_
    go_wp2_with fail
    go_ret
    exact ⟨rfl, H2.out.1⟩
  by_cases h114 : c = 114
  · rw [if_pos (by omega)]
    have e114 : ((c : Int) == 114) = true := by simp; omega
    have e101 : ((c : Int) == 101) = false := by simp; omega
    have e116 : ((c : Int) == 116) = false := by simp; omega
    clear h114 h
    go_enter Tryz.func60, Tryz.ntmps60
    go_wp2_with fail
    refine wp_region_noPanic ?_
    refine wp_region_held_drew (S := TokBox w.heap.size ⟨kd, c, pl⟩) (by kernel_rfl) (HB.out.2) (fun hHeld => ?_)
    refine takeAt 0 (some 14) ?_ rfl rfl (by kernel_rfl) (by kernel_rfl) (by kernel_rfl) (fun _ _ _ h => h) (Or.inl ⟨by rfl, ?_⟩) hHeld ?_
    rotate_left
    · intro w hSw
      go_simp <;> with_reducible rfl
    try simp only [Act.put, List.setIfInBounds_toArray, List.set_cons_zero, List.set_cons_succ]
    refine takeAt 1 (some 15) ?_ rfl rfl (by kernel_rfl) (by kernel_rfl) (by kernel_rfl) (fun _ _ _ h => h) (Or.inl ⟨by rfl, ?_⟩) hHeld ?_
    rotate_left
    · intro w hSw
      go_simp <;> with_reducible rfl
    try simp only [Act.put, List.setIfInBounds_toArray, List.set_cons_zero, List.set_cons_succ]
    refine takeAt 2 (some 16) ?_ rfl rfl (by kernel_rfl) (by kernel_rfl) (by kernel_rfl) (fun _ _ _ h => h) (Or.inl ⟨by rfl, ?_⟩) hHeld ?_
    rotate_left
    · intro w hSw
      go_simp <;> with_reducible rfl
    try simp only [Act.put, List.setIfInBounds_toArray, List.set_cons_zero, List.set_cons_succ]
    refine takeAt 3 (some 17) ?_ rfl rfl (by kernel_rfl) (by kernel_rfl) (by kernel_rfl) (fun _ _ _ h => h) (Or.inl ⟨by rfl, ?_⟩) hHeld ?_
    rotate_left
    · intro w hSw
      go_simp <;> with_reducible rfl
    try simp only [Act.put, List.setIfInBounds_toArray, List.set_cons_zero, List.set_cons_succ]
    refine takeAt 4 (some 18) ?_ rfl rfl (by kernel_rfl) (by kernel_rfl) (by kernel_rfl) (fun _ _ _ h => h) (Or.inl ⟨by rfl, ?_⟩) hHeld ?_
    rotate_left
    · intro w hSw
      go_simp <;> with_reducible rfl
    try simp only [Act.put, List.setIfInBounds_toArray, List.set_cons_zero, List.set_cons_succ]
    refine callAt 5 19 80 (vals := #[.int .u8 c]) (by kernel_rfl) rfl rfl rfl rfl (by simp [Act.eval]) Tryz.func80 (by kernel_rfl) (by kernel_rfl) ?_
    refine Calls.mono (control_any c _) ?_
    rintro e _ ⟨rfl, rfl⟩
    refine ⟨_, rfl, HB.out.2, fun hHeld => ?_⟩
    try simp only [Act.put, List.setIfInBounds_toArray, List.set_cons_zero, List.set_cons_succ]
    refine callAt 6 20 57 (vals := #[.pointer (some ⟨rb, 4, none⟩), .int .u8 (ctlC c)]) (by kernel_rfl) rfl rfl rfl rfl (by simp [Act.eval]) Tryz.func57 (by kernel_rfl) (by kernel_rfl) ?_
    refine Calls.mono (rplain ((HR.out.2 _).kp (kp_drew _)) (ctlC c) hl) ?_
    rintro e w2 ⟨rfl, q⟩
    have H2 : Hid (Okk B rb s last vn w _ w2 ∧ TokBox w.heap.size ⟨kd, c, pl⟩ w2) := ⟨Okk.ahead (Adv.kp vn rb (kp_trans (kp_alloc w _) (kp_drew _))) q, by obtain ⟨vn', _, a⟩ := q; exact HB.out.2.adv a hne HV.out⟩
    clear q
    refine ⟨_, rfl, H2.out.2, fun hHeld => ?_⟩
    try simp only [Act.put, List.setIfInBounds_toArray, List.set_cons_zero, List.set_cons_succ]
    refine takeAt 7 (some 4) ?_ rfl rfl (by kernel_rfl) (by kernel_rfl) (by kernel_rfl) (fun _ _ _ h => h) (Or.inl ⟨by rfl, ?_⟩) hHeld ?_
    rotate_left
    · intro w hSw
      go_simp <;> with_reducible rfl
    try simp only [Act.put, List.setIfInBounds_toArray, List.set_cons_zero, List.set_cons_succ]
    refine wpAnyH_done (by kernel_rfl) ?_ _
    refine NoPanic.normal ?_
    go_wp2_with fail
    go_ret
    exact ⟨rfl, H2.out.1⟩
  by_cases h98 : c = 98
  · rw [if_pos (by omega)]
    have e98 : ((c : Int) == 98) = true := by simp; omega
    have e101 : ((c : Int) == 101) = false := by simp; omega
    have e116 : ((c : Int) == 116) = false := by simp; omega
    have e114 : ((c : Int) == 114) = false := by simp; omega
    clear h98 h
    go_enter Tryz.func60, Tryz.ntmps60
    go_wp2_with fail
    refine wp_region_noPanic ?_
    refine wp_region_held_drew (S := TokBox w.heap.size ⟨kd, c, pl⟩) (by kernel_rfl) (HB.out.2) (fun hHeld => ?_)
    refine takeAt 0 (some 14) ?_ rfl rfl (by kernel_rfl) (by kernel_rfl) (by kernel_rfl) (fun _ _ _ h => h) (Or.inl ⟨by rfl, ?_⟩) hHeld ?_
    rotate_left
    · intro w hSw
      go_simp <;> with_reducible rfl
    try simp only [Act.put, List.setIfInBounds_toArray, List.set_cons_zero, List.set_cons_succ]
    refine takeAt 1 (some 15) ?_ rfl rfl (by kernel_rfl) (by kernel_rfl) (by kernel_rfl) (fun _ _ _ h => h) (Or.inl ⟨by rfl, ?_⟩) hHeld ?_
    rotate_left
    · intro w hSw
      go_simp <;> with_reducible rfl
    try simp only [Act.put, List.setIfInBounds_toArray, List.set_cons_zero, List.set_cons_succ]
    refine takeAt 2 (some 16) ?_ rfl rfl (by kernel_rfl) (by kernel_rfl) (by kernel_rfl) (fun _ _ _ h => h) (Or.inl ⟨by rfl, ?_⟩) hHeld ?_
    rotate_left
    · intro w hSw
      go_simp <;> with_reducible rfl
    try simp only [Act.put, List.setIfInBounds_toArray, List.set_cons_zero, List.set_cons_succ]
    refine takeAt 3 (some 17) ?_ rfl rfl (by kernel_rfl) (by kernel_rfl) (by kernel_rfl) (fun _ _ _ h => h) (Or.inl ⟨by rfl, ?_⟩) hHeld ?_
    rotate_left
    · intro w hSw
      go_simp <;> with_reducible rfl
    try simp only [Act.put, List.setIfInBounds_toArray, List.set_cons_zero, List.set_cons_succ]
    refine takeAt 4 (some 18) ?_ rfl rfl (by kernel_rfl) (by kernel_rfl) (by kernel_rfl) (fun _ _ _ h => h) (Or.inl ⟨by rfl, ?_⟩) hHeld ?_
    rotate_left
    · intro w hSw
      go_simp <;> with_reducible rfl
    try simp only [Act.put, List.setIfInBounds_toArray, List.set_cons_zero, List.set_cons_succ]
    refine callAt 5 19 80 (vals := #[.int .u8 c]) (by kernel_rfl) rfl rfl rfl rfl (by simp [Act.eval]) Tryz.func80 (by kernel_rfl) (by kernel_rfl) ?_
    refine Calls.mono (control_any c _) ?_
    rintro e _ ⟨rfl, rfl⟩
    refine ⟨_, rfl, HB.out.2, fun hHeld => ?_⟩
    try simp only [Act.put, List.setIfInBounds_toArray, List.set_cons_zero, List.set_cons_succ]
    refine callAt 6 20 57 (vals := #[.pointer (some ⟨rb, 4, none⟩), .int .u8 (ctlC c)]) (by kernel_rfl) rfl rfl rfl rfl (by simp [Act.eval]) Tryz.func57 (by kernel_rfl) (by kernel_rfl) ?_
    refine Calls.mono (rplain ((HR.out.2 _).kp (kp_drew _)) (ctlC c) hl) ?_
    rintro e w2 ⟨rfl, q⟩
    have H2 : Hid (Okk B rb s last vn w _ w2 ∧ TokBox w.heap.size ⟨kd, c, pl⟩ w2) := ⟨Okk.ahead (Adv.kp vn rb (kp_trans (kp_alloc w _) (kp_drew _))) q, by obtain ⟨vn', _, a⟩ := q; exact HB.out.2.adv a hne HV.out⟩
    clear q
    refine ⟨_, rfl, H2.out.2, fun hHeld => ?_⟩
    try simp only [Act.put, List.setIfInBounds_toArray, List.set_cons_zero, List.set_cons_succ]
    refine takeAt 7 (some 4) ?_ rfl rfl (by kernel_rfl) (by kernel_rfl) (by kernel_rfl) (fun _ _ _ h => h) (Or.inl ⟨by rfl, ?_⟩) hHeld ?_
    rotate_left
    · intro w hSw
      go_simp <;> with_reducible rfl
    try simp only [Act.put, List.setIfInBounds_toArray, List.set_cons_zero, List.set_cons_succ]
    refine wpAnyH_done (by kernel_rfl) ?_ _
    refine NoPanic.normal ?_
    go_wp2_with fail
    go_ret
    exact ⟨rfl, H2.out.1⟩
  rw [if_neg (by omega)]
  have e101 : ((c : Int) == 101) = false := by simp; omega
  have e116 : ((c : Int) == 116) = false := by simp; omega
  have e114 : ((c : Int) == 114) = false := by simp; omega
  have e98 : ((c : Int) == 98) = false := by simp; omega
  clear h101 h116 h114 h98
  have t1 := HB.out.1.cells.1.2.1
  have t2 := HB.out.1.cells.1.2.2
  have t0 := HB.out.1.cells.1.1
  simp only at t0 t1 t2
  by_cases h110 : c = 110
  · rw [if_pos h110]
    have e110 : ((c : Int) == 110) = true := by simp; omega
    clear h110 h
    have HS : Hid (∀ ob, Calls Tryz.prog 78 #[.pointer (some ⟨rb, 4, none⟩), .agg #[.int .u64 0, .int .u64 0, .int .u64 0, .int .u64 0]] (w.alloc ob) fun e w' => e = .returned (.int .i64 r.nds.length) ∧ Okk B rb s last vn (w.alloc ob) { r with nds := r.nds ++ [{ op := 4 }] } w') := fun ob => rset (HR.out.2 ob) zeroS hl
    go_enter Tryz.func60, Tryz.ntmps60
    go_wp2_with fail
    refine Calls.mono (HS.out _) ?_
    rintro e w1 ⟨rfl, q⟩
    have H2 : Hid (Okk B rb s last vn w _ w1) := Okk.ahead (Adv.kp vn rb (kp_alloc w _)) q
    clear q
    go_wp2_with fail
    go_ret
    exact ⟨rfl, H2.out⟩
  rw [if_neg h110]
  have e110 : ((c : Int) == 110) = false := by simp; omega
  clear h110
  by_cases h122 : c = 122
  · rw [if_pos h122]
    have e122 : ((c : Int) == 122) = true := by simp; omega
    clear h122 h
    have HE : Hid (∀ ob, Calls Tryz.prog 81 #[.pointer (some ⟨rb, 0, none⟩), .agg #[.int .u8 kd, .int .u8 c, .int .i64 pl]] (w.alloc ob) (RetI B rb s last vn (w.alloc ob) (edgeF s ⟨kd, c, pl⟩ r))) := fun ob => edge_any (HR.out.2 ob) hs ha hl ⟨kd, c, pl⟩
    generalize edgeF s ⟨kd, c, pl⟩ r = R at *
    go_enter Tryz.func60, Tryz.ntmps60
    go_wp2_with fail
    cases R with
    | ok ir =>
      obtain ⟨i, r'⟩ := ir
      refine Calls.mono (HE.out _) ?_
      rintro e w1 ⟨rfl, q⟩
      have H2 : Hid (Okk B rb s last vn w _ w1) := Okk.ahead (Adv.kp vn rb (kp_alloc w _)) q
      clear q
      go_wp2_with fail
      go_ret
      exact ⟨rfl, H2.out⟩
    | error na =>
      obtain ⟨n, a⟩ := na
      refine Calls.mono (HE.out _) ?_
      rintro e w1 ⟨rfl, q⟩
      have H2 : Hid (Er rb vn w w1) := HR.out.1.ert (Adv.kp vn rb (kp_alloc w _)) q
      clear q
      unfold Wrong
      go_wp2_with fail
      exact ⟨rfl, rfl, H2.out⟩
  rw [if_neg h122]
  have e122 : ((c : Int) == 122) = false := by simp; omega
  clear h122
  by_cases hdg : 49 ≤ c ∧ c ≤ 57
  · rw [if_pos hdg]
    have HE : Hid (∀ ob, Calls Tryz.prog 82 #[.pointer (some ⟨rb, 0, none⟩), .agg #[.int .u8 kd, .int .u8 c, .int .i64 pl]] (w.alloc ob) (RetI B rb s last vn (w.alloc ob) (backF ⟨kd, c, pl⟩ r))) := fun ob => back_any (HR.out.2 ob) hl hc ⟨kd, c, pl⟩ hdg
    generalize backF ⟨kd, c, pl⟩ r = R at *
    have hcs : ((c : Int) == 49) = true ∨ (((c : Int) == 49) = false ∧ ((c : Int) == 50) = true) ∨ (((c : Int) == 49) = false ∧ ((c : Int) == 50) = false ∧ ((c : Int) == 51) = true) ∨ (((c : Int) == 49) = false ∧ ((c : Int) == 50) = false ∧ ((c : Int) == 51) = false ∧ ((c : Int) == 52) = true) ∨ (((c : Int) == 49) = false ∧ ((c : Int) == 50) = false ∧ ((c : Int) == 51) = false ∧ ((c : Int) == 52) = false ∧ ((c : Int) == 53) = true) ∨ (((c : Int) == 49) = false ∧ ((c : Int) == 50) = false ∧ ((c : Int) == 51) = false ∧ ((c : Int) == 52) = false ∧ ((c : Int) == 53) = false ∧ ((c : Int) == 54) = true) ∨ (((c : Int) == 49) = false ∧ ((c : Int) == 50) = false ∧ ((c : Int) == 51) = false ∧ ((c : Int) == 52) = false ∧ ((c : Int) == 53) = false ∧ ((c : Int) == 54) = false ∧ ((c : Int) == 55) = true) ∨ (((c : Int) == 49) = false ∧ ((c : Int) == 50) = false ∧ ((c : Int) == 51) = false ∧ ((c : Int) == 52) = false ∧ ((c : Int) == 53) = false ∧ ((c : Int) == 54) = false ∧ ((c : Int) == 55) = false ∧ ((c : Int) == 56) = true) ∨ (((c : Int) == 49) = false ∧ ((c : Int) == 50) = false ∧ ((c : Int) == 51) = false ∧ ((c : Int) == 52) = false ∧ ((c : Int) == 53) = false ∧ ((c : Int) == 54) = false ∧ ((c : Int) == 55) = false ∧ ((c : Int) == 56) = false ∧ ((c : Int) == 57) = true) := by
      simp only [beq_iff_eq, beq_eq_false_iff_ne, ne_eq]; omega
    clear h hdg
    rcases hcs with d | ⟨d1, d⟩ | ⟨d1, d2, d⟩ | ⟨d1, d2, d3, d⟩ | ⟨d1, d2, d3, d4, d⟩ | ⟨d1, d2, d3, d4, d5, d⟩ | ⟨d1, d2, d3, d4, d5, d6, d⟩ | ⟨d1, d2, d3, d4, d5, d6, d7, d⟩ | ⟨d1, d2, d3, d4, d5, d6, d7, d8, d⟩
    all_goals
      go_enter Tryz.func60, Tryz.ntmps60
      go_wp2_with fail
      cases R with
      | ok ir =>
        obtain ⟨i, r'⟩ := ir
        refine Calls.mono (HE.out _) ?_
        rintro e w1 ⟨rfl, q⟩
        have H2 : Hid (Okk B rb s last vn w _ w1) := Okk.ahead (Adv.kp vn rb (kp_alloc w _)) q
        clear q
        go_wp2_with fail
        go_ret
        exact ⟨rfl, H2.out⟩
      | error na =>
        obtain ⟨n, a⟩ := na
        refine Calls.mono (HE.out _) ?_
        rintro e w1 ⟨rfl, q⟩
        have H2 : Hid (Er rb vn w w1) := HR.out.1.ert (Adv.kp vn rb (kp_alloc w _)) q
        clear q
        unfold Wrong
        go_wp2_with fail
        exact ⟨rfl, rfl, H2.out⟩
  rw [if_neg hdg]
  have d49 : ((c : Int) == 49) = false := by simp; omega
  have d50 : ((c : Int) == 50) = false := by simp; omega
  have d51 : ((c : Int) == 51) = false := by simp; omega
  have d52 : ((c : Int) == 52) = false := by simp; omega
  have d53 : ((c : Int) == 53) = false := by simp; omega
  have d54 : ((c : Int) == 54) = false := by simp; omega
  have d55 : ((c : Int) == 55) = false := by simp; omega
  have d56 : ((c : Int) == 56) = false := by simp; omega
  have d57 : ((c : Int) == 57) = false := by simp; omega
  have HO := fun (ob : Obj) => kOf_any c (w.alloc ob)
  obtain ⟨Q, hQ⟩ : ∃ Q, foldS (isB c) 256 = Q := ⟨_, rfl⟩
  rw [hQ] at HO ⊢
  have HO' : Hid _ := HO
  clear HO hQ hdg
  cases hk : knB (smI c) with
  | true =>
    rw [hk] at HO'
    clear hk h
    go_enter Tryz.func60, Tryz.ntmps60
    go_wp2_with fail
    refine Calls.mono (HO'.out _) ?_
    rintro e w1 ⟨rfl, q⟩
    have H1 : Hid (Kp w w1 ∧ TokBox w.heap.size ⟨kd, c, pl⟩ w1) := ⟨kp_trans (kp_alloc w _) q, HB.out.1.kp q⟩
    clear q
    have HS : Hid (SetBox w1.heap.size Q (w1.alloc (.cells #[.int .u64 Q.a, .int .u64 Q.b, .int .u64 Q.c, .int .u64 Q.d] 32)).drew) := alloc_new w1 _
    have H3 : Hid (Rr B rb s last r vn (w1.alloc (.cells #[.int .u64 Q.a, .int .u64 Q.b, .int .u64 Q.c, .int .u64 Q.d] 32)).drew ∧ Kp w (w1.alloc (.cells #[.int .u64 Q.a, .int .u64 Q.b, .int .u64 Q.c, .int .u64 Q.d] 32)).drew ∧ w1.heap.size ≠ rb ∧ vn.ownBlock ≠ some w1.heap.size) := by
      have k1 := H1.out.1
      have k2 : Kp w (w1.alloc (.cells #[.int .u64 Q.a, .int .u64 Q.b, .int .u64 Q.c, .int .u64 Q.d] 32)).drew := kp_trans (kp_trans k1 (kp_alloc _ _)) (kp_drew _)
      have l := (HR.out.1.kp k1).lt
      exact ⟨HR.out.1.kp k2, k2, by omega, (HR.out.1.kp k1).own (Nat.le_refl _)⟩
    have rl0 : ∀ w', SetBox w1.heap.size Q w' → w'.cell? ⟨w1.heap.size, 0, none⟩ = some (.int .u64 Q.a) := fun _ h => h.cells.1
    have rl1 : ∀ w', SetBox w1.heap.size Q w' → w'.cell? ⟨w1.heap.size, 1, none⟩ = some (.int .u64 Q.b) := fun _ h => h.cells.2.1
    have rl2 : ∀ w', SetBox w1.heap.size Q w' → w'.cell? ⟨w1.heap.size, 2, none⟩ = some (.int .u64 Q.c) := fun _ h => h.cells.2.2.1
    have rl3 : ∀ w', SetBox w1.heap.size Q w' → w'.cell? ⟨w1.heap.size, 3, none⟩ = some (.int .u64 Q.d) := fun _ h => h.cells.2.2.2
    go_wp2_with fail
    refine wp_region_noPanic ?_
    refine wp_region_held_drew (S := SetBox w1.heap.size Q) (by kernel_rfl) (HS.out) (fun hHeld => ?_)
    refine takeAt 0 (some 58) ?_ rfl rfl (by kernel_rfl) (by kernel_rfl) (by kernel_rfl) (fun _ _ _ h => h) (Or.inl ⟨by rfl, ?_⟩) hHeld ?_
    rotate_left
    · intro w hSw
      go_simp <;> with_reducible rfl
    try simp only [Act.put, List.setIfInBounds_toArray, List.set_cons_zero, List.set_cons_succ]
    refine takeAt 1 (some 59) ?_ rfl rfl (by kernel_rfl) (by kernel_rfl) (by kernel_rfl) (fun _ _ _ h => h) (Or.inl ⟨by rfl, ?_⟩) hHeld ?_
    rotate_left
    · intro w hSw
      go_simp <;> with_reducible rfl
    try simp only [Act.put, List.setIfInBounds_toArray, List.set_cons_zero, List.set_cons_succ]
    refine takeAt 2 (some 60) ?_ rfl rfl (by kernel_rfl) (by kernel_rfl) (by kernel_rfl) (fun _ _ _ h => h) (Or.inl ⟨by rfl, ?_⟩) hHeld ?_
    rotate_left
    · intro w hSw
      go_simp <;> with_reducible rfl
    try simp only [Act.put, List.setIfInBounds_toArray, List.set_cons_zero, List.set_cons_succ]
    refine takeAt 3 (some 61) ?_ rfl rfl (by kernel_rfl) (by kernel_rfl) (by kernel_rfl) (fun _ _ _ h => h) (Or.inl ⟨by rfl, ?_⟩) hHeld ?_
    rotate_left
    · intro w hSw
      go_simp <;> with_reducible rfl
    try simp only [Act.put, List.setIfInBounds_toArray, List.set_cons_zero, List.set_cons_succ]
    refine callAt 4 62 78 (vals := #[.pointer (some ⟨rb, 4, none⟩), .agg #[.int .u64 Q.a, .int .u64 Q.b, .int .u64 Q.c, .int .u64 Q.d]]) (by kernel_rfl) rfl rfl rfl rfl (by simp [Act.eval]) Tryz.func78 (by kernel_rfl) (by kernel_rfl) ?_
    refine Calls.mono (rset H3.out.1 Q hl) ?_
    rintro e w2 ⟨rfl, q⟩
    have H2 : Hid (Okk B rb s last vn w _ w2 ∧ SetBox w1.heap.size Q w2) := ⟨Okk.ahead (Adv.kp vn rb H3.out.2.1) q, by obtain ⟨vn', _, a⟩ := q; exact HS.out.adv a H3.out.2.2.1 H3.out.2.2.2⟩
    clear q
    refine ⟨_, rfl, H2.out.2, fun hHeld => ?_⟩
    try simp only [Act.put, List.setIfInBounds_toArray, List.set_cons_zero, List.set_cons_succ]
    refine takeAt 5 (some 4) ?_ rfl rfl (by kernel_rfl) (by kernel_rfl) (by kernel_rfl) (fun _ _ _ h => h) (Or.inl ⟨by rfl, ?_⟩) hHeld ?_
    rotate_left
    · intro w hSw
      go_simp <;> with_reducible rfl
    try simp only [Act.put, List.setIfInBounds_toArray, List.set_cons_zero, List.set_cons_succ]
    refine wpAnyH_done (by kernel_rfl) ?_ _
    refine NoPanic.normal ?_
    go_wp2_with fail
    go_ret
    exact ⟨rfl, H2.out.1⟩
  | false =>
    rw [hk] at HO'
    clear hk h
    go_enter Tryz.func60, Tryz.ntmps60
    go_wp2_with fail
    refine Calls.mono (HO'.out _) ?_
    rintro e w1 ⟨rfl, q⟩
    have H1 : Hid (Kp w w1 ∧ TokBox w.heap.size ⟨kd, c, pl⟩ w1) := ⟨kp_trans (kp_alloc w _) q, HB.out.1.kp q⟩
    clear q
    obtain ⟨⟨r0, r1, r2⟩, _⟩ := H1.out.2.cells
    have hn1 : w.heap.size < w1.heap.size := by have := (Array.getElem?_eq_some_iff.1 H1.out.2).1; exact this
    go_wp2_with fail
    exact ⟨rfl, rfl, HR.out.1.er (Adv.kp vn rb (kp_trans H1.out.1 (kp_alloc _ _)))⟩
end
end Go.Proofs.YtmghdogoeehodaaGreatDoor
/- The reader's call number. -/
namespace Go.Proofs.YtmghdogoeehodaaGreatDoor
open Go.ChangeShapes Go.WideShapes Go.ChangeAt Go.RowKit
set_option linter.unusedVariables false
set_option linter.unusedSimpArgs false
/-- Digits from a place on: the number, and where they end; none: too great, or too many. -/
def numG (s : ByteArray) (fr : Nat) : Nat → Nat → Nat → Option (Nat × Nat)
  | 0, k, n => some (n, k)
  | f + 1, k, n =>
    if k < s.size then
      if digB (byteAt s k) then
        if 60 < 10 * n + (byteAt s k - 48) ∨ 3 < k + 1 - fr then none else numG s fr f (k + 1) (10 * n + (byteAt s k - 48))
      else some (n, k)
    else some (n, k)
def numF (s : ByteArray) (k : Nat) : Option (Nat × Nat) := numG s k (s.size + 1 - k) k 0
theorem numG_le {s : ByteArray} {fr f : Nat} : ∀ {k n m j : Nat}, numG s fr f k n = some (m, j) → k ≤ s.size → n ≤ 60 → k ≤ j ∧ j ≤ s.size ∧ m ≤ 60 := by
  induction f with
  | zero => intro k n m j h h1 h2; simp [numG] at h; omega
  | succ f ih =>
    intro k n m j h h1 h2
    rw [numG] at h
    split at h
    · split at h
      · split at h
        · cases h
        · rename_i hq
          obtain ⟨a, b, c⟩ := ih h (by omega) (by omega)
          exact ⟨by omega, b, c⟩
      · cases h; exact ⟨by omega, h1, h2⟩
    · cases h; exact ⟨by omega, h1, h2⟩
theorem numF_le {s : ByteArray} {k m j : Nat} (h : numF s k = some (m, j)) (hk : k ≤ s.size) : k ≤ j ∧ j ≤ s.size ∧ m ≤ 60 := numG_le h hk (by omega)
/-- What a call of number comes to. -/
def NumP (B rb : Nat) (s last : ByteArray) (r : RS) (vn : Qv) (w : World) (pl : Nat) (R : Option (Nat × Nat)) (e : Ending) (w' : World) : Prop :=
  match R with
  | some (n, j) => e = .returned (.tuple #[.int .i64 n, .bool (decide (r.k < j))]) ∧ Rr B rb s last { r with k := j } vn w' ∧ Adv rb vn w vn w'
  | none => e = Wrong 32 pl ∧ Er rb vn w w'
section
variable {B rb : Nat} {s last : ByteArray} {r : RS} {vn : Qv} {w : World}
theorem Rr.step (h : Rr B rb s last r vn w) : Rr B rb s last { r with k := r.k + 1 } vn (w.setCell ⟨rb, 1, none⟩ (.int .i64 ((r.k : Int) + 1))) := h.scan (fr_set _ _ _ _) h.scn.step
set_option maxHeartbeats 4000000 in
set_option maxRecDepth 100000 in
theorem number_any (h : Rr B rb s last r vn w) (hs : s.size ≤ 400) (ha : r.k ≤ s.size) (t : Tok) :
    Calls Tryz.prog 93 #[.pointer (some ⟨rb, 0, none⟩), t.val] w (NumP B rb s last r vn w t.pl (numF s r.k)) := by
  obtain ⟨kd, c, pl⟩ := t
  unfold Tok.val numF
  simp only
  obtain ⟨R, hR⟩ : ∃ R, numG s r.k (s.size + 1 - r.k) r.k 0 = R := ⟨_, rfl⟩
  rw [hR]
  have hne : w.heap.size ≠ rb := Nat.ne_of_gt h.lt
  have HV : Hid (vn.ownBlock ≠ some w.heap.size) := h.own (Nat.le_refl _)
  have HR : Hid (Rr B rb s last r vn w ∧ numG s r.k (s.size + 1 - r.k) r.k 0 = R) := ⟨h, hR⟩
  have c1 := (h.kp (kp_alloc w (.cells #[.int .u8 kd, .int .u8 c, .int .i64 pl] 78))).scn.c1
  obtain ⟨fr, hfr⟩ : ∃ fr, r.k = fr := ⟨_, rfl⟩
  have HK : Hid (r.k = fr) := hfr
  rw [hfr] at c1 HR ha
  clear h hR hfr
  go_enter Tryz.func93, Tryz.ntmps93
  go_wp2_with fail
  go_loopw [7] (fun vi wr => ∃ (k n f : Nat), vi = .int .i64 n ∧ n ≤ 60 ∧ fr ≤ k ∧ k ≤ fr + 3 ∧ k ≤ s.size ∧ f = s.size + 1 - k ∧ Rr B rb s last { r with k := k } vn wr ∧ Adv rb vn w vn wr ∧ TokBox w.heap.size ⟨kd, c, pl⟩ wr ∧ numG s fr f k n = R) (fun _ wr => s.size + 1 - atOf rb wr)
  case atStart => exact ⟨fr, 0, _, rfl, by omega, by omega, by omega, ha, rfl, by rw [← HK.out]; exact HR.out.1.kp (kp_alloc w _), Adv.kp vn rb (kp_alloc w _), alloc_new w _, HR.out.2⟩
  case round =>
    obtain ⟨k, n, f, rfl, hn, hk1, hk3, hk, hf, hO, hA, hT, hG⟩ := hrel
    have HAt : Hid (atOf rb wr = k) := hO.scn.atOf
    obtain ⟨f, rfl⟩ : ∃ f', f = f' + 1 := ⟨f - 1, by omega⟩
    have HF : Hid (f + 1 = s.size + 1 - k) := hf
    clear hf
    rw [numG] at hG
    have HS : Hid (Rr B rb s last { r with k := k } vn wr ∧ Adv rb vn w vn wr ∧ TokBox w.heap.size ⟨kd, c, pl⟩ wr) := ⟨hO, hA, hT⟩
    have d0 : wr.cell? ⟨rb, 0, none⟩ = some (.string s) := hO.scn.c0
    have d1 : wr.cell? ⟨rb, 1, none⟩ = some (.int .i64 k) := hO.scn.c1
    by_cases hlt : k < s.size
    · have hd : decide ((k : Int) < (s.size : Int)) = true := by simp; omega
      rw [if_pos hlt] at hG
      have HBy : Hid (byteAt s k = (s[k]).toNat) := byteAt_eq s k hlt
      have HSc : Hid (Scn 59 (vn.v :: .string last :: .int .i64 r.g :: r.cl.map Value.bool) s k r.md r.cs rb wr.drew) := hO.scn.drewN 1
      have rl0 : ∀ w', Scn 59 (vn.v :: .string last :: .int .i64 r.g :: r.cl.map Value.bool) s k r.md r.cs rb w' → w'.cell? ⟨rb, 0, none⟩ = some (.string s) := fun _ h => h.c0
      have rl1 : ∀ w', Scn 59 (vn.v :: .string last :: .int .i64 r.g :: r.cl.map Value.bool) s k r.md r.cs rb w' → w'.cell? ⟨rb, 1, none⟩ = some (.int .i64 k) := fun _ h => h.c1
      have HG : Hid ((if digB (byteAt s k) then if 60 < 10 * n + (byteAt s k - 48) ∨ 3 < k + 1 - fr then none else numG s fr f (k + 1) (10 * n + (byteAt s k - 48)) else some (n, k)) = R) := hG
      obtain ⟨y, hy⟩ : ∃ y, digB ((s[k]).toNat : Int) = y := ⟨_, rfl⟩
      have HY : Hid (digB ((s[k]).toNat : Int) = y) := hy
      have HI := fun (x : World) => is_d ((s[k]).toNat : Int) x
      rw [hy] at HI
      have HI' : Hid _ := HI
      clear hO hA hT hG HI hy
      go_wp2_with fail
      refine wp_region_noPanic ?_
      refine wp_region_held_drew (S := Scn 59 (vn.v :: .string last :: .int .i64 r.g :: r.cl.map Value.bool) s k r.md r.cs rb) (by kernel_rfl) (HSc.out) (fun hHeld => ?_)
      refine takeAt 0 (some 13) ?_ rfl rfl (by kernel_rfl) (by kernel_rfl) (by kernel_rfl) (fun _ _ _ h => h) (Or.inl ⟨by rfl, ?_⟩) hHeld ?_
      rotate_left
      · intro w hSw
        go_simp <;> with_reducible rfl
      try simp only [Act.put, List.setIfInBounds_toArray, List.set_cons_zero, List.set_cons_succ]
      refine takeAt 1 (some 14) ?_ rfl rfl (by kernel_rfl) (by kernel_rfl) (by kernel_rfl) (fun _ _ _ h => h) (Or.inl ⟨by rfl, ?_⟩) hHeld ?_
      rotate_left
      · intro w hSw
        go_simp <;> with_reducible rfl
      try simp only [Act.put, List.setIfInBounds_toArray, List.set_cons_zero, List.set_cons_succ]
      refine takeAt 2 (some 15) ?_ rfl rfl (by kernel_rfl) (by kernel_rfl) (by kernel_rfl) (fun _ _ _ h => h) (Or.inl ⟨by rfl, ?_⟩) hHeld ?_
      rotate_left
      · intro w hSw
        go_simp <;> with_reducible rfl
      try simp only [Act.put, List.setIfInBounds_toArray, List.set_cons_zero, List.set_cons_succ]
      refine takeAt 3 (some 16) ?_ rfl rfl (by kernel_rfl) (by kernel_rfl) (by kernel_rfl) (fun _ _ _ h => h) (Or.inl ⟨by rfl, ?_⟩) hHeld ?_
      rotate_left
      · intro w hSw
        go_simp <;> with_reducible rfl
      try simp only [Act.put, List.setIfInBounds_toArray, List.set_cons_zero, List.set_cons_succ]
      refine takeAt 4 (some 17) ?_ rfl rfl (by kernel_rfl) (by kernel_rfl) (by kernel_rfl) (fun _ _ _ h => h) (Or.inl ⟨by rfl, ?_⟩) hHeld ?_
      rotate_left
      · intro w hSw
        go_simp <;> with_reducible rfl
      try simp only [Act.put, List.setIfInBounds_toArray, List.set_cons_zero, List.set_cons_succ]
      refine takeAt 5 (some 18) ?_ rfl rfl (by kernel_rfl) (by kernel_rfl) (by kernel_rfl) (fun _ _ _ h => h) (Or.inl ⟨by rfl, ?_⟩) hHeld ?_
      rotate_left
      · intro w hSw
        go_simp <;> with_reducible rfl
      try simp only [Act.put, List.setIfInBounds_toArray, List.set_cons_zero, List.set_cons_succ]
      refine takeAt 6 (some 19) ?_ rfl rfl (by kernel_rfl) (by kernel_rfl) (by kernel_rfl) (fun _ _ _ h => h) (Or.inl ⟨by rfl, ?_⟩) hHeld ?_
      rotate_left
      · intro w hSw
        go_simp <;> with_reducible rfl
      try simp only [Act.put, List.setIfInBounds_toArray, List.set_cons_zero, List.set_cons_succ]
      refine takeAt 7 (some 20) ?_ rfl rfl (by kernel_rfl) (by kernel_rfl) (by kernel_rfl) (fun _ _ _ h => h) (Or.inl ⟨by rfl, ?_⟩) hHeld ?_
      rotate_left
      · intro w hSw
        go_simp <;> with_reducible rfl
      try simp only [Act.put, List.setIfInBounds_toArray, List.set_cons_zero, List.set_cons_succ]
      refine takeAt 8 (some 21) ?_ rfl rfl (by kernel_rfl) (by kernel_rfl) (by kernel_rfl) (fun _ _ _ h => h) (Or.inl ⟨by rfl, ?_⟩) hHeld ?_
      rotate_left
      · intro w hSw
        go_simp <;> with_reducible rfl
      try simp only [Act.put, List.setIfInBounds_toArray, List.set_cons_zero, List.set_cons_succ]
      refine takeAt 9 (some 22) ?_ rfl rfl (by kernel_rfl) (by kernel_rfl) (by kernel_rfl) (fun _ _ _ h => h) (Or.inl ⟨by rfl, ?_⟩) hHeld ?_
      rotate_left
      · intro w hSw
        go_simp <;> with_reducible rfl
      try simp only [Act.put, List.setIfInBounds_toArray, List.set_cons_zero, List.set_cons_succ]
      refine takeAt 10 (some 23) ?_ rfl rfl (by kernel_rfl) (by kernel_rfl) (by kernel_rfl) (fun _ _ _ h => h) (Or.inl ⟨by rfl, ?_⟩) hHeld ?_
      rotate_left
      · intro w hSw
        go_simp <;> with_reducible rfl
      try simp only [Act.put, List.setIfInBounds_toArray, List.set_cons_zero, List.set_cons_succ]
      refine takeAt 11 (some 24) ?_ rfl rfl (by kernel_rfl) (by kernel_rfl) (by kernel_rfl) (fun _ _ _ h => h) (Or.inl ⟨by rfl, ?_⟩) hHeld ?_
      rotate_left
      · intro w hSw
        go_simp <;> with_reducible rfl
      try simp only [Act.put, List.setIfInBounds_toArray, List.set_cons_zero, List.set_cons_succ]
      refine takeAt 12 (some 25) ?_ rfl rfl (by kernel_rfl) (by kernel_rfl) (by kernel_rfl) (fun _ _ _ h => h) (Or.inl ⟨by rfl, ?_⟩) hHeld ?_
      rotate_left
      · intro w hSw
        go_simp <;> with_reducible rfl
      try simp only [Act.put, List.setIfInBounds_toArray, List.set_cons_zero, List.set_cons_succ]
      refine takeAt 13 (some 26) ?_ rfl rfl (by kernel_rfl) (by kernel_rfl) (by kernel_rfl) (fun _ _ _ h => h) (Or.inl ⟨by rfl, ?_⟩) hHeld ?_
      rotate_left
      · intro w hSw
        go_simp <;> with_reducible rfl
      try simp only [Act.put, List.setIfInBounds_toArray, List.set_cons_zero, List.set_cons_succ]
      refine takeAt 14 (some 27) ?_ rfl rfl (by kernel_rfl) (by kernel_rfl) (by kernel_rfl) (fun _ _ _ h => h) (Or.inl ⟨by rfl, ?_⟩) hHeld ?_
      rotate_left
      · intro w hSw
        go_simp <;> with_reducible rfl
      try simp only [Act.put, List.setIfInBounds_toArray, List.set_cons_zero, List.set_cons_succ]
      refine takeAt 15 (some 28) ?_ rfl rfl (by kernel_rfl) (by kernel_rfl) (by kernel_rfl) (fun _ _ _ h => h) (Or.inl ⟨by rfl, ?_⟩) hHeld ?_
      rotate_left
      · intro w hSw
        go_simp <;> with_reducible rfl
      try simp only [Act.put, List.setIfInBounds_toArray, List.set_cons_zero, List.set_cons_succ]
      refine takeAt 16 (some 29) ?_ rfl rfl (by kernel_rfl) (by kernel_rfl) (by kernel_rfl) (fun _ _ _ h => h) (Or.inl ⟨by rfl, ?_⟩) hHeld ?_
      rotate_left
      · intro w hSw
        go_simp <;> with_reducible rfl
      try simp only [Act.put, List.setIfInBounds_toArray, List.set_cons_zero, List.set_cons_succ]
      refine takeAt 17 (some 30) ?_ rfl rfl (by kernel_rfl) (by kernel_rfl) (by kernel_rfl) (fun _ _ _ h => h) (Or.inl ⟨by rfl, ?_⟩) hHeld ?_
      rotate_left
      · intro w hSw
        go_simp <;> with_reducible rfl
      try simp only [Act.put, List.setIfInBounds_toArray, List.set_cons_zero, List.set_cons_succ]
      refine takeAt 18 (some 31) ?_ rfl rfl (by kernel_rfl) (by kernel_rfl) (by kernel_rfl) (fun _ _ _ h => h) (Or.inl ⟨by rfl, ?_⟩) hHeld ?_
      rotate_left
      · intro w hSw
        go_simp <;> with_reducible rfl
      try simp only [Act.put, List.setIfInBounds_toArray, List.set_cons_zero, List.set_cons_succ]
      refine takeAt 19 (some 32) ?_ rfl rfl (by kernel_rfl) (by kernel_rfl) (by kernel_rfl) (fun _ _ _ h => h) (Or.inl ⟨by rfl, ?_⟩) hHeld ?_
      rotate_left
      · intro w hSw
        go_simp <;> with_reducible rfl
      try simp only [Act.put, List.setIfInBounds_toArray, List.set_cons_zero, List.set_cons_succ]
      refine takeAt 20 (some 33) ?_ rfl rfl (by kernel_rfl) (by kernel_rfl) (by kernel_rfl) (fun _ _ _ h => h) (Or.inl ⟨by rfl, ?_⟩) hHeld ?_
      rotate_left
      · intro w hSw
        go_simp <;> with_reducible rfl
      try simp only [Act.put, List.setIfInBounds_toArray, List.set_cons_zero, List.set_cons_succ]
      refine takeAt 21 (some 34) ?_ rfl rfl (by kernel_rfl) (by kernel_rfl) (by kernel_rfl) (fun _ _ _ h => h) (Or.inl ⟨by rfl, ?_⟩) hHeld ?_
      rotate_left
      · intro w hSw
        go_simp <;> with_reducible rfl
      try simp only [Act.put, List.setIfInBounds_toArray, List.set_cons_zero, List.set_cons_succ]
      refine takeAt 22 (some 35) ?_ rfl rfl (by kernel_rfl) (by kernel_rfl) (by kernel_rfl) (fun _ _ _ h => h) (Or.inl ⟨by rfl, ?_⟩) hHeld ?_
      rotate_left
      · intro w hSw
        go_simp <;> with_reducible rfl
      try simp only [Act.put, List.setIfInBounds_toArray, List.set_cons_zero, List.set_cons_succ]
      refine takeAt 23 (some 36) ?_ rfl rfl (by kernel_rfl) (by kernel_rfl) (by kernel_rfl) (fun _ _ _ h => h) (Or.inl ⟨by rfl, ?_⟩) hHeld ?_
      rotate_left
      · intro w hSw
        go_simp <;> with_reducible rfl
      try simp only [Act.put, List.setIfInBounds_toArray, List.set_cons_zero, List.set_cons_succ]
      refine callAtG 24 37 90 (vals := #[.int .u8 100, .int .u8 (s[k]).toNat]) (by kernel_rfl) rfl rfl rfl (by rfl) (by simp [Act.eval]) Tryz.func90 (by kernel_rfl) (by kernel_rfl) ?_
      refine Calls.mono (HI'.out _) ?_
      rintro e w2 ⟨rfl, q⟩
      have H2 : Hid (Scn 59 (vn.v :: .string last :: .int .i64 r.g :: r.cl.map Value.bool) s k r.md r.cs rb w2 ∧ Kp wr w2) := ⟨HSc.out.kp q, kp_trans (kp_drew wr) q⟩
      clear q
      refine ⟨_, rfl, H2.out.1, fun hHeld => ?_⟩
      try simp only [Act.put, List.setIfInBounds_toArray, List.set_cons_zero, List.set_cons_succ]
      refine takeAt 25 (some 38) ?_ rfl rfl (by kernel_rfl) (by kernel_rfl) (by kernel_rfl) (fun _ _ _ h => h) (Or.inl ⟨by rfl, ?_⟩) hHeld ?_
      rotate_left
      · intro w hSw
        go_simp <;> with_reducible rfl
      try simp only [Act.put, List.setIfInBounds_toArray, List.set_cons_zero, List.set_cons_succ]
      refine wpAnyH_done (by kernel_rfl) ?_ _
      refine NoPanic.normal ?_
      have H3 : Hid (Rr B rb s last { r with k := k } vn w2 ∧ Adv rb vn w vn w2 ∧ TokBox w.heap.size ⟨kd, c, pl⟩ w2) := ⟨HS.out.1.kp H2.out.2, HS.out.2.1.trans (Adv.kp vn rb H2.out.2), HS.out.2.2.kp H2.out.2⟩
      have d0 : w2.cell? ⟨rb, 0, none⟩ = some (.string s) := H3.out.1.scn.c0
      have d1 : w2.cell? ⟨rb, 1, none⟩ = some (.int .i64 k) := H3.out.1.scn.c1
      have f1 : w2.frozen? ⟨rb, 1, none⟩ = false := H3.out.1.scn.fz 1
      clear HS HSc HI' H2 rl0 rl1
      cases y with
      | true =>
        have hdg : 48 ≤ (s[k]).toNat ∧ (s[k]).toNat ≤ 57 := by
          have := HY.out
          simp [digB, bt] at this; omega
        obtain ⟨D, hD⟩ : ∃ D, (s[k]).toNat - 48 = D := ⟨_, rfl⟩
        have hDi : ((s[k]).toNat : Int) - 48 = (D : Int) := by omega
        have hD9 : D ≤ 9 := by omega
        have hR2 := HG.out
        rw [HBy.out, HY.out, if_pos rfl, hD] at hR2
        have HR2 : Hid ((if 60 < 10 * n + D ∨ 3 < k + 1 - fr then none else numG s fr f (k + 1) (10 * n + D)) = R) := hR2
        have hb1 : 48 ≤ (s[k]).toNat := hdg.1
        have hb2 : (s[k]).toNat ≤ 57 := hdg.2
        have H4 : Hid (∀ q, Rr B rb s last { r with k := k + 1 } vn ((w2.drewN q).setCell ⟨rb, 1, none⟩ (.int .i64 ((k : Int) + 1))) ∧ Adv rb vn w vn ((w2.drewN q).setCell ⟨rb, 1, none⟩ (.int .i64 ((k : Int) + 1))) ∧ TokBox w.heap.size ⟨kd, c, pl⟩ ((w2.drewN q).setCell ⟨rb, 1, none⟩ (.int .i64 ((k : Int) + 1)))) := fun q => by
          have k1 := kp_drewN w2 q
          have a1 : Fr (On rb) (w2.drewN q) ((w2.drewN q).setCell ⟨rb, 1, none⟩ (.int .i64 ((k : Int) + 1))) := fr_set _ _ _ _
          exact ⟨Rr.step (H3.out.1.kp k1), (H3.out.2.1.trans (Adv.kp vn rb k1)).trans (Adv.on vn a1), (H3.out.2.2.kp k1).fr a1 hne⟩
        clear hdg hD hR2 HG HY HBy
        go_upto_region 4 with (go_quiet (fail))
        go_upto_region 5 with fail
        have H5 := H4.out nq
        obtain ⟨w3, hw3⟩ : ∃ w3, (w2.drewN nq).setCell ⟨rb, 1, none⟩ (.int .i64 ((k : Int) + 1)) = w3 := ⟨_, rfl⟩
        rw [hw3] at H5 ⊢
        have H6 : Hid _ := H5
        obtain ⟨⟨r0, r1, r2⟩, _⟩ := H6.out.2.2.cells
        have d1' : w3.cell? ⟨rb, 1, none⟩ = some (.int .i64 ((k : Int) + 1)) := H6.out.1.scn.c1
        clear hw3 H5 H4 H3 d0 d1 f1
        by_cases hA : 60 < 10 * n + D
        · have e1 : decide ((60 : Int) < 10 * (n : Int) + (D : Int)) = true := by simp; omega
          have hR3 := HR2.out
          rw [if_pos (.inl hA)] at hR3
          subst hR3
          clear HR2
          go_wp2_with fail
          exact ⟨rfl, rfl, HR.out.1.er H6.out.2.1⟩
        · have e1 : decide ((60 : Int) < 10 * (n : Int) + (D : Int)) = false := by simp; omega
          by_cases hB : 3 < k + 1 - fr
          · have e2 : decide ((3 : Int) < (k : Int) + 1 - (fr : Int)) = true := by simp; omega
            have hR3 := HR2.out
            rw [if_pos (.inr hB)] at hR3
            subst hR3
            clear HR2
            go_wp2_with fail
            exact ⟨rfl, rfl, HR.out.1.er H6.out.2.1⟩
          · have e2 : decide ((3 : Int) < (k : Int) + 1 - (fr : Int)) = false := by simp; omega
            have hR3 := HR2.out
            rw [if_neg (by omega)] at hR3
            have HR3 : Hid (numG s fr f (k + 1) (10 * n + D) = R ∧ ¬ 60 < 10 * n + D ∧ ¬ 3 < k + 1 - fr) := ⟨hR3, hA, hB⟩
            clear HR2 hR3
            go_wp2_with fail
            go_roundw
            case rel => exact ⟨k + 1, 10 * n + D, f, by go_num, by have := HR3.out.2.1; omega, by omega, by have := HR3.out.2.2; omega, by omega, by have := HF.out; omega, H6.out.1, H6.out.2.1, H6.out.2.2, HR3.out.1⟩
            case measure =>
              have e := H6.out.1.scn.atOf
              simp only at e
              rw [e, HAt.out]; omega
      | false =>
        have hR2 := HG.out
        rw [HBy.out, HY.out, if_neg (by simp)] at hR2
        subst hR2
        have H4 : Hid (∀ q, Rr B rb s last { r with k := k } vn (w2.drewN q) ∧ Adv rb vn w vn (w2.drewN q)) := fun q => ⟨H3.out.1.kp (kp_drewN w2 q), H3.out.2.1.trans (Adv.kp vn rb (kp_drewN w2 q))⟩
        have e3 : decide ((fr : Int) < (k : Int)) = decide (r.k < k) := by rw [HK.out]; simp
        have HE3 : Hid (decide ((fr : Int) < (k : Int)) = decide (r.k < k)) := e3
        clear HG HY HBy e3
        go_wp2_with fail
        go_quiet (fail)
        go_wp2_with fail
        go_ret2
        exact ⟨by rw [HK.out]; rfl, H4.out _⟩
    · have hd : decide ((k : Int) < (s.size : Int)) = false := by simp; omega
      rw [if_neg hlt] at hG
      subst hG
      have H4 : Hid (∀ q, Rr B rb s last { r with k := k } vn (wr.drewN q) ∧ Adv rb vn w vn (wr.drewN q)) := fun q => ⟨HS.out.1.kp (kp_drewN wr q), HS.out.2.1.trans (Adv.kp vn rb (kp_drewN wr q))⟩
      have e3 : decide ((fr : Int) < (k : Int)) = decide (r.k < k) := by rw [HK.out]; simp
      have HE3 : Hid (decide ((fr : Int) < (k : Int)) = decide (r.k < k)) := e3
      clear hO hA hT HS e3
      go_wp2_with fail
      go_quiet (fail)
      go_wp2_with fail
      go_quiet (fail)
      go_wp2_with fail
      go_ret2
      exact ⟨by rw [HK.out]; rfl, by rw [drew2]; exact H4.out _⟩
end
end Go.Proofs.YtmghdogoeehodaaGreatDoor
